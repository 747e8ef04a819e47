/- Walks of settle, SyncDir, and Sync of a name that is one. -/
import Derived.Test.YtjpmjidpdgikgaaDg
namespace Go.Proofs.Ytjpmjidpdgikgaa
open Go.RowKit Go.Maps

section
variable {w : World} {p room n m k : Nat} {m2 : Option Nat} {pa : Option Addr} {pn pc : Nat} {f : Lit → Option Value} {s : ByteArray}
/-- What settle leaves. -/
def Settled (p room n m k : Nat) (f : Lit → Option Value) (v : Value) (w : World) (e : Ending) (w' : World) : Prop :=
  e = .returned v ∧ ∃ m3, w.heap.size ≤ m3 ∧ Dk w' p room n (some m) (some m3) none 0 0 ∧ MpF w' 9 m3 k f ∧ MpF w' 9 m k f ∧ Kept (fun i => i = p) w w'
set_option maxRecDepth 100000 in
theorem settle_any (h : Dk w p room n (some m) m2 pa pn pc) (hm : MpF w 9 m k f) : Calls Try.prog 23 #[.pointer (some ⟨p, 0, none⟩)] w (Settled p room n m k f (.tuple #[]) w) := by
  have u2 : w.cell? ⟨p, 2, none⟩ = some (.map (some m)) := h.cell 2
  have HC := Lib.hid (mclone_any hm)
  have HD := Lib.hid h
  have HM := Lib.hid hm
  clear h hm
  go_enter Try.func23, Try.ntmps23
  go_wp2_with fail
  refine HC.out.mono ?_
  rintro e w1 ⟨rfl, h3, h1, hb⟩
  have H1 := Lib.hid (HD.out.below hb)
  have H3 := Lib.hid h3
  have HB := Lib.hid hb
  have v3 : w1.cell? ⟨p, 3, none⟩ = some (.map m2) := H1.out.cell 3
  have z3 : w1.frozen? ⟨p, 3, none⟩ = false := H1.out.frozen 3
  have v4 : w1.cell? ⟨p, 4, none⟩ = some (.slice pa pn pc) := H1.out.cell 4
  have z4 : w1.frozen? ⟨p, 4, none⟩ = false := H1.out.frozen 4
  have HX := Lib.hid h1
  clear u2 h3 h1 hb
  go_wp2_with fail
  have k1 := Kept.setCell w1 ⟨p, 3, none⟩ (.map (some w.heap.size))
  have k2 := Kept.setCell (w1.setCell ⟨p, 3, none⟩ (.map (some w.heap.size))) ⟨p, 4, none⟩ (.slice none 0 0)
  have kk := k1.trans k2 (fun i hi => .inl hi)
  have hd := (H1.out.set 3 (.map (some w.heap.size))).set 4 (.slice none 0 0)
  have hne3 := H3.out.ne H1.out
  have hne1 := HX.out.ne H1.out
  exact Go.Great.bodyPost_end0 rfl rfl ⟨rfl, w.heap.size, Nat.le_refl _, hd, H3.out.kept kk hne3, HX.out.kept kk hne1, (Kept.of_below HB.out).trans kk (fun i hi => .inl hi)⟩
set_option maxRecDepth 100000 in
theorem syncdir_any (h : Dk w p room n (some m) m2 pa pn pc) (h0 : 0 < room) (hm : MpF w 9 m k f) : Calls Try.prog 13 #[.pointer (some ⟨p, 0, none⟩)] w (Settled p room n m k f (.int .i64 0) w) := by
  have HM := begin_any h h0
  have HD := Lib.hid h
  have HF := Lib.hid hm
  go_enter Try.func13, Try.ntmps13
  go_wp2_with fail
  refine HM.mono ?_
  rintro e w1 ⟨rfl, hb⟩
  have HB := Lib.hid hb
  have HC := Lib.hid (settle_any (h.below hb) (hm.below hb))
  clear h hm HM hb
  go_wp2_with fail
  refine HC.out.mono ?_
  rintro e w2 ⟨rfl, m3, h3, hd, hf3, hf1, hk⟩
  have HR : Hid (Settled p room n m k f (.int .i64 0) w (.returned (.int .i64 0)) w2) := Lib.hid ⟨rfl, m3, Nat.le_trans HB.out.size h3, hd, hf3, hf1, (Kept.of_below HB.out).trans hk (fun i hi => .inl hi)⟩
  clear h3 hd hf3 hf1 hk HC
  go_wp2_with fail
  go_ret
  exact HR.out
set_option maxRecDepth 100000 in
/-- Sync of a name that is one. -/
theorem sync_some {g num len cap dur : Nat} {a : Option Addr} (h : Dk w p room n (some m) m2 pa pn pc) (h0 : 0 < room) (hm : MpF w 9 m k f) (hs : s.size ≤ 1000000) (hf : f (litS s) = some (.pointer (some ⟨g, 0, none⟩)))
    (hg : Blk w g 57 (inA num a len cap dur)) : Calls Try.prog 12 #[.pointer (some ⟨p, 0, none⟩), .string s] w fun e w' => e = .returned (.int .i64 0) ∧ Blk w' g 57 (inA num a len cap len) ∧ Kept (fun i => i = g) w w' := by
  have HM := begin_any h h0
  go_enter Try.func12, Try.ntmps12
  go_wp2_with fail
  refine HM.mono ?_
  rintro e w1 ⟨rfl, hb⟩
  have u2 : w1.cell? ⟨p, 2, none⟩ = some (.map (some m)) := (h.below hb).cell 2
  have hl := look_any (hm.below hb) hs
  rw [hf] at hl
  simp only [Option.getD_some] at hl
  have HG := Lib.hid (hg.below hb)
  have v1 : w1.cell? ⟨g, 1, none⟩ = some (.slice a len cap) := HG.out.cell 1
  have v2 : w1.cell? ⟨g, 2, none⟩ = some (.int .i64 (dur : Int)) := HG.out.cell 2
  have z2 : w1.frozen? ⟨g, 2, none⟩ = false := HG.out.frozen 2
  have HB := Lib.hid hb
  clear h HM hm hf hg hb
  go_wp2_with fail
  go_ret
  exact ⟨rfl, HG.out.set 2 (.int .i64 (len : Int)), (Kept.of_below HB.out).trans (Kept.setCell w1 ⟨g, 2, none⟩ (.int .i64 (len : Int))) (fun i hi => .inl hi)⟩
end
end Go.Proofs.Ytjpmjidpdgikgaa
