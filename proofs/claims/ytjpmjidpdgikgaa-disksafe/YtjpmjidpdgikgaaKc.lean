/- Walk of an inode's crash: how many bytes are left is the document's. -/
import Derived.Test.YtjpmjidpdgikgaaKb
import Derived.BigRegion
import Derived.Deep.DeepCutAuto
namespace Go.Proofs.Ytjpmjidpdgikgaa
open Go.RowKit Go.Maps

theorem sizeOf5_run (W : World) : (Go.sizeOf 5).run Try.prog W = .ok 1 W := by
  obtain ⟨i0, hii, _, hz1, _⟩ := info_parts info5
  simp [Go.sizeOf, typeInfo, hii, hz1]
theorem slice_h (kl : IntKind) (a : Option Addr) (len cap k : Nat) (W : World) (hk : k ≤ cap) :
    (Instr.slice 23 (.slice a len cap) none (some (.int kl (k : Int))) none).run Try.prog W = .ok (.slice a k cap) W := by
  have he : Try.prog.elem 23 = 5 := by kernel_rfl
  have ht : Try.prog.underlying 23 = some (.slice (Try.prog.elem 23)) := by rw [he]; exact Try.underlying23
  have hz := sizeOf5_run W
  rw [run_slice_h (P := Try.prog) W 23 a len cap ht kl (k : Int) (by omega) (by omega), he, hz]
  cases a <;> simp [Result.andThen, sliced, Addr.add]
/-- How many more bytes a crash leaves. -/
def Fi.cut (cuts : List Nat) (x : Fi) : Nat := if cuts.length = 0 then 0 else cuts.getD (x.num % cuts.length) 0 % (x.bs.length - x.dur + 1)
/-- A file behind a crash. -/
def Fi.cr (cuts : List Nat) (x : Fi) : Fi := { x with dur := x.dur + x.cut cuts, bs := x.bs.take (x.dur + x.cut cuts) }
theorem Fi.cut_le (cuts : List Nat) {x : Fi} (h : x.dur ≤ x.bs.length) : x.dur + x.cut cuts ≤ x.bs.length := by
  unfold Fi.cut
  split
  · omega
  · have := Nat.mod_lt (cuts.getD (x.num % cuts.length) 0) (show x.bs.length - x.dur + 1 > 0 by omega)
    omega
theorem Fi.cr_len (cuts : List Nat) {x : Fi} (h : x.dur ≤ x.bs.length) : (x.cr cuts).bs.length = x.dur + x.cut cuts := by
  have := x.cut_le cuts h
  simp only [Fi.cr, List.length_take]; omega
theorem Fi.cr_cr (cuts : List Nat) {x : Fi} (h : x.dur ≤ x.bs.length) : (x.cr cuts).cr cuts = x.cr cuts := by
  have hl := x.cr_len cuts h
  have h0 : (x.cr cuts).cut cuts = 0 := by
    unfold Fi.cut
    rw [hl]
    show (if _ then 0 else _ % (x.dur + x.cut cuts - (x.dur + x.cut cuts) + 1)) = 0
    split
    · rfl
    · rw [Nat.sub_self, Nat.zero_add, Nat.mod_one]
  have e1 : (x.cr cuts).cr cuts = { x.cr cuts with dur := (x.cr cuts).dur + (x.cr cuts).cut cuts, bs := (x.cr cuts).bs.take ((x.cr cuts).dur + (x.cr cuts).cut cuts) } := rfl
  rw [e1, h0, Nat.add_zero, List.take_of_length_le (by rw [hl]; exact Nat.le_refl _)]

def Crd (cuts : List Nat) (x : Fi) (w : World) (e : Ending) (w' : World) : Prop := e = .returned (.tuple #[]) ∧ Blk w' x.g 57 (x.cr cuts).cells ∧ Kept (fun i => i = x.g) w w'
theorem cr_none {x : Fi} (h : x.dur ≤ x.bs.length) : (x.cr []).cells = inA x.num x.a x.dur x.cap x.dur := by
  have h1 := x.cr_len [] h
  have h2 : x.cut [] = 0 := rfl
  unfold Fi.cells
  rw [h1, h2]
  rfl
set_option maxRecDepth 100000 in
set_option maxHeartbeats 1000000 in
theorem icrash_none {w : World} (x : Fi) (ca : Option Addr) (cc : Nat) (hx : Blk w x.g 57 x.cells) (hd : x.dur ≤ x.bs.length) (hc : x.bs.length ≤ x.cap) :
    Calls Try.prog 26 #[.pointer (some ⟨x.g, 0, none⟩), .slice ca 0 cc] w (Crd [] x w) := by
  have v1 : w.cell? ⟨x.g, 1, none⟩ = some (.slice x.a x.bs.length x.cap) := hx.cell 1
  have v2 : w.cell? ⟨x.g, 2, none⟩ = some (.int .i64 (x.dur : Int)) := hx.cell 2
  have z1 : w.frozen? ⟨x.g, 1, none⟩ = false := hx.frozen 1
  have hdc : x.dur ≤ x.cap := by omega
  have HX : Hid (Blk w.drew x.g 57 x.cells) := Lib.hid (hx.below (drew_below w))
  have HL := Lib.hid hd
  clear hx hd hc
  go_enter Try.func26, Try.ntmps26
  go_wp2_with fail
  go_region
  go_wp2_with fail
  refine Go.Great.bodyPost_end0 rfl rfl ⟨rfl, ?_, (Kept.drew _ w).trans (Kept.setCell w.drew ⟨x.g, 1, none⟩ (.slice x.a x.dur x.cap)) (fun i hi => .inl hi)⟩
  rw [cr_none HL.out]
  exact HX.out.set 1 (.slice x.a x.dur x.cap)
theorem cr_some {x : Fi} {cuts : List Nat} {k : Nat} (h : x.dur ≤ x.bs.length) (hk : x.dur + x.cut cuts = k) : (x.cr cuts).cells = inA x.num x.a k x.cap k := by
  have h1 := x.cr_len cuts h
  unfold Fi.cells
  rw [h1, hk]
  show inA x.num x.a k x.cap (x.dur + x.cut cuts) = _
  rw [hk]
set_option maxRecDepth 100000 in
set_option maxHeartbeats 2000000 in
theorem icrash_some {w : World} (x : Fi) (ca : Option Addr) (cl cc : Nat) (cuts : List Nat) (hx : Blk w x.g 57 x.cells) (hd : x.dur ≤ x.bs.length) (hl : x.bs.length ≤ 100000000) (hc : x.bs.length ≤ x.cap) (hr : Row w ca cl cuts) (h0 : 0 < cl) (hn : x.num ≤ 1000000) :
    Calls Try.prog 26 #[.pointer (some ⟨x.g, 0, none⟩), .slice ca cl cc] w (Crd cuts x w) := by
  obtain ⟨b, off, rfl, hcells⟩ := hr.cells.resolve_left (by omega)
  obtain ⟨j, hj⟩ : ∃ j, x.num % cl = j := ⟨_, rfl⟩
  have hjl : j < cl := by rw [← hj]; exact Nat.mod_lt _ h0
  have ej : (x.num : Int) % (cl : Int) = (j : Int) := by rw [← hj]; simp
  obtain ⟨c, hcc⟩ : ∃ c, cuts.getD j 0 = c := ⟨_, rfl⟩
  have ec : w.cell? ⟨b, off + j, none⟩ = some (.int .u8 (c : Int)) := by rw [← hcc]; exact hcells j hjl
  have hc256 : c < 256 := by rw [← hcc]; exact small_at hr hjl
  obtain ⟨m, hm⟩ : ∃ m, c % (x.bs.length - x.dur + 1) = m := ⟨_, rfl⟩
  have hmd : x.dur + m ≤ x.bs.length := by have := Nat.mod_lt c (show x.bs.length - x.dur + 1 > 0 by omega); omega
  have em : (c : Int) % ((x.bs.length : Int) - (x.dur : Int) + 1) = (m : Int) := by rw [← hm, Int.natCast_emod]; congr 1; omega
  have hcut : x.cut cuts = m := by
    unfold Fi.cut
    rw [if_neg (by rw [hr.size]; omega), hr.size, hj, hcc, hm]
  have e0 : ((cl : Int) == 0) = false := by simp; omega
  have ez : ¬ cl = 0 := by omega
  have ez2 : ¬ ((cl : Int) = 0) := by omega
  have v0 : w.cell? ⟨x.g, 0, none⟩ = some (.int .i64 (x.num : Int)) := hx.cell 0
  have v1 : w.cell? ⟨x.g, 1, none⟩ = some (.slice x.a x.bs.length x.cap) := hx.cell 1
  have v2 : w.cell? ⟨x.g, 2, none⟩ = some (.int .i64 (x.dur : Int)) := hx.cell 2
  have z1 : w.frozen? ⟨x.g, 1, none⟩ = false := hx.frozen 1
  have z2 : w.frozen? ⟨x.g, 2, none⟩ = false := hx.frozen 2
  have hdc : x.dur + m ≤ x.cap := by omega
  have HX : Hid (Blk w x.g 57 x.cells) := Lib.hid hx
  have HCE : Hid ((x.cr cuts).cells = inA x.num x.a (x.dur + m) x.cap (x.dur + m)) := Lib.hid (cr_some hd (by rw [hcut]))
  have w1 : IntKind.i64.wrap ((x.bs.length : Int) - (x.dur : Int)) = (x.bs.length : Int) - (x.dur : Int) := by rw [IntKind.wrap_i64]; omega
  have w2 : IntKind.i64.wrap ((x.bs.length : Int) - (x.dur : Int) + 1) = (x.bs.length : Int) - (x.dur : Int) + 1 := by rw [IntKind.wrap_i64]; omega
  have w3 : IntKind.i64.wrap ((x.dur : Int) + (m : Int)) = ((x.dur + m : Nat) : Int) := by rw [IntKind.wrap_i64]; omega
  have w4 : IntKind.i64.wrap (c : Int) = (c : Int) := by rw [IntKind.wrap_i64]; omega
  have ey : ((x.bs.length : Int) - (x.dur : Int) + 1 == 0) = false := by simp; omega
  have ey2 : ¬ ((x.bs.length : Int) - (x.dur : Int) + 1 = 0) := by omega
  clear hx hr hcells hj hcc hm hcut
  go_enter Try.func26, Try.ntmps26
  go_wp2_with fail
  go_region
  have HW : Hid (Blk (w.setCell ⟨x.g, 2, none⟩ (.int .i64 ((x.dur : Int) + (m : Int)))).drew x.g 57 (inA x.num x.a x.bs.length x.cap (x.dur + m)) ∧ Kept (fun i => i = x.g) w (w.setCell ⟨x.g, 2, none⟩ (.int .i64 ((x.dur : Int) + (m : Int)))).drew) := Lib.hid ⟨by
      have h1 := (HX.out.set 2 (.int .i64 ((x.dur : Int) + (m : Int)))).below (drew_below _)
      have e : (x.dur : Int) + (m : Int) = ((x.dur + m : Nat) : Int) := by omega
      rw [e] at h1 ⊢
      exact h1, (Kept.setCell w ⟨x.g, 2, none⟩ (.int .i64 ((x.dur : Int) + (m : Int)))).trans (Kept.drew (fun i => i = x.g) _) (fun i hi => .inl hi)⟩
  clear HX v0 v1 v2 z1 z2 ec w1 w2 w3 w4 ey ey2 em ej e0 ez ez2
  generalize (w.setCell ⟨x.g, 2, none⟩ (.int .i64 ((x.dur : Int) + (m : Int)))).drew = W at HW ⊢
  have v1 : W.cell? ⟨x.g, 1, none⟩ = some (.slice x.a x.bs.length x.cap) := HW.out.1.cell 1
  have v2 : W.cell? ⟨x.g, 2, none⟩ = some (.int .i64 ((x.dur + m : Nat) : Int)) := HW.out.1.cell 2
  have z1 : W.frozen? ⟨x.g, 1, none⟩ = false := HW.out.1.frozen 1
  generalize x.dur + m = k at HW HCE hdc v2
  clear hmd
  go_wp2_with fail
  go_region
  go_wp2_with fail
  have hk := Kept.setCell W.drew ⟨x.g, 1, none⟩ (.slice x.a k x.cap)
  refine Go.Great.bodyPost_end0 rfl rfl ⟨rfl, ?_, (HW.out.2.trans (Kept.drew _ W) (fun i hi => .inl hi)).trans hk (fun i hi => .inl hi)⟩
  rw [HCE.out]
  exact (HW.out.1.below (drew_below W)).set 1 (.slice x.a k x.cap)
theorem icrash_any {w : World} (x : Fi) (ca : Option Addr) (cl cc : Nat) (cuts : List Nat) (hx : Blk w x.g 57 x.cells) (hd : x.dur ≤ x.bs.length) (hl : x.bs.length ≤ 100000000) (hc : x.bs.length ≤ x.cap) (hr : Row w ca cl cuts) (hn : x.num ≤ 1000000) :
    Calls Try.prog 26 #[.pointer (some ⟨x.g, 0, none⟩), .slice ca cl cc] w (Crd cuts x w) := by
  by_cases h0 : cl = 0
  · subst h0
    obtain rfl := List.eq_nil_of_length_eq_zero hr.size
    exact icrash_none x ca cc hx hd hc
  · exact icrash_some x ca cl cc cuts hx hd hl hc hr (by omega) hn
end Go.Proofs.Ytjpmjidpdgikgaa
