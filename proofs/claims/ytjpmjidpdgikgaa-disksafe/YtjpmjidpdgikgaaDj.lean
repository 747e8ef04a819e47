/- Walks of Remove and Rename of a name that is one. -/
import Derived.Test.YtjpmjidpdgikgaaDi
namespace Go.Proofs.Ytjpmjidpdgikgaa
open Go.RowKit Go.Maps

/-- What a call leaves that noted a change and answered v. -/
def NotedV (r : Value) (B p room n m k : Nat) (m2 : Option Nat) (f : Lit → Option Value) (pa : Option Addr) (vs : List (List Value)) (gone set : ByteArray) (v : Option Addr) (w : World) (e : Ending) (w' : World) : Prop :=
  e = .returned r ∧ Noted B p room n m k m2 f pa vs gone set v w (.returned (.tuple #[])) w'
theorem Noted.from {B p room n m k : Nat} {m2 : Option Nat} {f : Lit → Option Value} {pa : Option Addr} {vs : List (List Value)} {gone set : ByteArray} {v : Option Addr} {w w1 w' : World} {e : Ending} (h : Noted B p room n m k m2 f pa vs gone set v w1 e w') (hb : Below w.heap.size w w1) : Noted B p room n m k m2 f pa vs gone set v w e w' := by
  obtain ⟨he, k', qa, qn, qc, h1, h2, h3, h4, h5, h6⟩ := h
  refine ⟨he, k', qa, qn, qc, h1, h2, h3, h4, fun ad ha => ?_, (Kept.of_below hb).trans h6 (fun i hi => .inl hi)⟩
  rcases h5 ad ha with h | h
  · exact .inl h
  · exact .inr (Nat.le_trans hb.size h)

section
variable {w : World} {p room n m k : Nat} {m2 : Option Nat} {pa : Option Addr} {pn pc : Nat} {f : Lit → Option Value} {s : ByteArray} {B : Nat} {vs : List (List Value)}
set_option maxRecDepth 100000 in
theorem remove_some {g : Nat} (h : Dk w p room n (some m) m2 pa pn pc) (h0 : 0 < room) (hm : MpF w 9 m k f) (ho : OwnG w 54 3 B pa pn pc vs) (hB : B ≤ w.heap.size) (hk : k < 900000) (hs : s.size ≤ 1000000) (hf : f (litS s) = some (.pointer (some ⟨g, 0, none⟩))) :
    Calls Try.prog 10 #[.pointer (some ⟨p, 0, none⟩), .string s] w (NotedV (.int .i64 0) B p room n m k m2 f pa vs s ⟨#[]⟩ none w) := by
  have HM := begin_any h h0
  go_enter Try.func10, Try.ntmps10
  go_wp2_with fail
  refine HM.mono ?_
  rintro e w1 ⟨rfl, hb⟩
  have u2 : w1.cell? ⟨p, 2, none⟩ = some (.map (some m)) := (h.below hb).cell 2
  have hl := look_any (hm.below hb) hs
  rw [hf] at hl
  simp only [Option.getD_some] at hl
  have HN := Lib.hid (note_any s ⟨#[]⟩ none (h.below hb) (hm.below hb) (ho.below hb) (Nat.le_trans hB hb.size) hk hs (by decide))
  have HB := Lib.hid hb
  clear h HM hm hf ho hB hb
  go_wp2_with fail
  refine HN.out.mono ?_
  intro e w2 hn
  obtain rfl := hn.1
  have HR := Lib.hid (hn.from HB.out)
  clear hn HN u2 hl
  go_wp2_with fail
  go_ret
  exact ⟨rfl, HR.out⟩
set_option maxRecDepth 100000 in
theorem rename_none (r : ByteArray) (h : Dk w p room n (some m) m2 pa pn pc) (h0 : 0 < room) (hm : MpF w 9 m k f) (hs : s.size ≤ 1000000) (hf : f (litS s) = none) :
    Calls Try.prog 18 #[.pointer (some ⟨p, 0, none⟩), .string s, .string r] w (Says (.int .i64 7) w) := by
  have HM := begin_any h h0
  go_enter Try.func18, Try.ntmps18
  go_wp2_with fail
  refine HM.mono ?_
  rintro e w1 ⟨rfl, hb⟩
  have u2 : w1.cell? ⟨p, 2, none⟩ = some (.map (some m)) := (h.below hb).cell 2
  have hl := look_any (hm.below hb) hs
  rw [hf] at hl
  simp only [Option.getD_none] at hl
  clear h HM hm hf
  go_wp2_with fail
  go_ret
  exact ⟨rfl, hb⟩
set_option maxRecDepth 100000 in
theorem rename_bad {g : Nat} (r : ByteArray) (h : Dk w p room n (some m) m2 pa pn pc) (h0 : 0 < room) (hm : MpF w 9 m k f) (hs : s.size ≤ 1000000) (hf : f (litS s) = some (.pointer (some ⟨g, 0, none⟩))) (hr : ¬ (1 ≤ r.size ∧ r.size ≤ 32)) :
    Calls Try.prog 18 #[.pointer (some ⟨p, 0, none⟩), .string s, .string r] w (Says (.int .i64 2) w) := by
  have HM := begin_any h h0
  go_enter Try.func18, Try.ntmps18
  go_wp2_with fail
  refine HM.mono ?_
  rintro e w1 ⟨rfl, hb⟩
  have u2 : w1.cell? ⟨p, 2, none⟩ = some (.map (some m)) := (h.below hb).cell 2
  have hl := look_any (hm.below hb) hs
  rw [hf] at hl
  simp only [Option.getD_some] at hl
  have HV := Lib.hid (valid_any r w1)
  rw [show decide (1 ≤ r.size ∧ r.size ≤ 32) = false by simpa using hr] at HV
  clear h HM hm hf hr
  have HB := Lib.hid hb
  clear hb
  go_wp2_with fail
  refine HV.out.mono ?_
  rintro e w2 ⟨rfl, hb2⟩
  have HR := Lib.hid (HB.out.trans (hb2.mono HB.out.size))
  clear hb2
  go_wp2_with fail
  go_ret
  exact ⟨rfl, HR.out⟩
set_option maxRecDepth 100000 in
theorem rename_same {g : Nat} (h : Dk w p room n (some m) m2 pa pn pc) (h0 : 0 < room) (hm : MpF w 9 m k f) (hs : s.size ≤ 1000000) (hf : f (litS s) = some (.pointer (some ⟨g, 0, none⟩))) (hr : 1 ≤ s.size ∧ s.size ≤ 32) :
    Calls Try.prog 18 #[.pointer (some ⟨p, 0, none⟩), .string s, .string s] w (Says (.int .i64 0) w) := by
  have HM := begin_any h h0
  go_enter Try.func18, Try.ntmps18
  go_wp2_with fail
  refine HM.mono ?_
  rintro e w1 ⟨rfl, hb⟩
  have u2 : w1.cell? ⟨p, 2, none⟩ = some (.map (some m)) := (h.below hb).cell 2
  have hl := look_any (hm.below hb) hs
  rw [hf] at hl
  simp only [Option.getD_some] at hl
  have HV := Lib.hid (valid_any s w1)
  rw [show decide (1 ≤ s.size ∧ s.size ≤ 32) = true by simpa using hr] at HV
  clear h HM hm hf hr
  have HB := Lib.hid hb
  clear hb
  go_wp2_with fail
  refine HV.out.mono ?_
  rintro e w2 ⟨rfl, hb2⟩
  have HR := Lib.hid (HB.out.trans (hb2.mono HB.out.size))
  clear hb2
  go_wp2_with fail
  go_ret
  exact ⟨rfl, HR.out⟩
set_option maxRecDepth 100000 in
theorem rename_some {g : Nat} (r : ByteArray) (h : Dk w p room n (some m) m2 pa pn pc) (h0 : 0 < room) (hm : MpF w 9 m k f) (ho : OwnG w 54 3 B pa pn pc vs) (hB : B ≤ w.heap.size) (hk : k < 900000) (hs : s.size ≤ 1000000) (hf : f (litS s) = some (.pointer (some ⟨g, 0, none⟩))) (hr : 1 ≤ r.size ∧ r.size ≤ 32) (hne : s ≠ r) :
    Calls Try.prog 18 #[.pointer (some ⟨p, 0, none⟩), .string s, .string r] w (NotedV (.int .i64 0) B p room n m k m2 f pa vs s r (some ⟨g, 0, none⟩) w) := by
  have HM := begin_any h h0
  go_enter Try.func18, Try.ntmps18
  go_wp2_with fail
  refine HM.mono ?_
  rintro e w1 ⟨rfl, hb⟩
  have u2 : w1.cell? ⟨p, 2, none⟩ = some (.map (some m)) := (h.below hb).cell 2
  have hl := look_any (hm.below hb) hs
  rw [hf] at hl
  simp only [Option.getD_some] at hl
  have HV := Lib.hid (valid_any r w1)
  rw [show decide (1 ≤ r.size ∧ r.size ≤ 32) = true by simpa using hr] at HV
  have hq : (s.toList == r.toList) = false := by
    rw [beq_eq_false_iff_ne]
    intro e
    rw [ByteArray.toList_eq, ByteArray.toList_eq] at e
    exact hne (ByteArray.ext (Array.toList_inj.mp e))
  have HN := Lib.hid (fun V (hv : Below w1.heap.size w1 V) => note_any (w := V) s r (some ⟨g, 0, none⟩) ((h.below hb).below hv) ((hm.below hb).below hv) ((ho.below hb).below hv) (Nat.le_trans (Nat.le_trans hB hb.size) hv.size) hk hs (by omega))
  have HB := Lib.hid hb
  clear h HM hm hf ho hB hb hr hne
  go_wp2_with fail
  refine HV.out.mono ?_
  rintro e w2 ⟨rfl, hb2⟩
  have HN2 := Lib.hid (HN.out w2 hb2)
  have HB2 := Lib.hid (HB.out.trans (hb2.mono HB.out.size))
  clear hb2 HV HN HB u2 hl
  go_wp2_with fail
  refine HN2.out.mono ?_
  intro e w3 hn
  obtain rfl := hn.1
  have HR := Lib.hid (hn.from HB2.out)
  clear hn HN2 hq
  go_wp2_with fail
  go_ret
  exact ⟨rfl, HR.out⟩
end
end Go.Proofs.Ytjpmjidpdgikgaa
