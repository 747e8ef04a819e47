/- Maps from strings: what a key reads as, deleting, and the walk of maps.Clone. -/
import Derived.Test.YtjpmjidpdgikgaaMa
import Derived.Shelf.SlMaps.Clone
namespace Go.Proofs.Ytjpmjidpdgikgaa
open Go.RowKit Go.Maps

theorem law9 : Keyed Try.prog 9 := string_keyed Try.underlying9
/-- What a string reads as. -/
def litS (s : ByteArray) : Lit := .string s.data.toList
theorem key9 {s : ByteArray} (h : s.size ≤ maxLen) : keyOf Try.prog 9 (.string s) = some (litS s) := by
  simp [keyOf, Try.underlying9, mapKey, litS, h]
theorem litS_inj {s t : ByteArray} (h : litS s = litS t) : s = t := by
  injection h with h
  exact ByteArray.ext (Array.toList_inj.mp h)

open Classical in
/-- Deleting. -/
noncomputable def cutF (f : Lit → Option Value) (kl : Lit) : Lit → Option Value := fun x => if x = kl then none else f x
theorem cutF_same (f : Lit → Option Value) (kl : Lit) : cutF f kl kl = none := by unfold cutF; exact if_pos rfl
theorem cutF_other (f : Lit → Option Value) {kl x : Lit} (h : x ≠ kl) : cutF f kl x = f x := by unfold cutF; exact if_neg h

theorem MpF.del {w : World} {k m n t e : Nat} {f : Lit → Option Value} (h : MpF w k m n f) (K : Keyed Try.prog k) (ht : Try.prog.underlying t = some (.map k e)) {key : Value} {kl : Lit} (hkey : keyOf Try.prog k key = some kl) (ty : TypeId) :
    ∃ w2, (Builtin.delete_ #[t, k] ty #[.map (some m), key]).run Try.prog w = .ok (.tuple #[]) w2 ∧ MpF w2 k m (if (f kl).isSome then n - 1 else n) (cutF f kl) ∧ Kept (fun i => i = m) w w2 := by
  obtain ⟨D, h⟩ := h
  obtain ⟨w2, hrun, ho, hg⟩ := h.own.drop K ht hkey ty
  have hs : Maps.size (D.del kl) = if (f kl).isSome then n - 1 else n := by
    have e := size_del (k := kl) (h.own.tidy K)
    rw [h.has kl, h.size] at e
    cases hf : (f kl).isSome
    · rw [hf] at e; simp at e ⊢; omega
    · rw [hf] at e; simp at e ⊢; omega
  refine ⟨w2, hrun, ⟨_, ?_, hs, fun x => ?_, fun x u hx z => ?_⟩, (Kept.of_grown hg.grown).mono fun i hi => by simpa using hi.symm⟩
  · obtain ⟨es, clock, hb, F, hle, hD⟩ := ho
    refine ⟨es, clock, hb, F, ?_, hD⟩
    have := congrArg Maps.size hD
    rw [hs] at this
    simp only [Maps.size, length_sorted, List.length_map, Array.length_toList] at this
    omega
  · by_cases e : x = kl
    · subst e
      rw [has_del_same, cutF_same]; rfl
    · rw [has_del_other e, h.has x, cutF_other f e]
  · by_cases e : x = kl
    · subst e
      rw [cutF_same] at hx
      cases hx
    · rw [cutF_other f e] at hx
      rw [atKey_del_other e, h.val x u hx]

/-- How the library's numbers of maps.Clone lie here. -/
def cloneRen : Go.Shelf.Ren := ⟨fun | 5 => 31 | 7 => 36 | n => n, fun | 23 => 40 | 25 => 9 | 3 => 51 | n => n, fun n => n⟩
theorem clone_laid : SlLaysW.n5 Try.prog cloneRen := {
  mixed := by kernel_rfl,
  f5 := ⟨Try.f31.name, by decide, Try.func31.trans (congrArg some (by kernel_rfl))⟩,
  f7 := Try.func36.trans (congrArg some (by kernel_rfl)),
  t4 := Try.underlying4,
  a4 := Try.isAgg4,
  z4 := Try.sizeOf4,
  v4 := Try.zeroValue4,
  t20 := Try.underlying20,
  a20 := Try.isAgg20,
  z20 := Try.sizeOf20,
  v20 := Try.zeroValue20,
  t23 := Try.underlying40,
  a23 := Try.isAgg40,
  z23 := Try.sizeOf40,
  v23 := Try.zeroValue40,
}
theorem mclone_any {w : World} {m n : Nat} {f : Lit → Option Value} (h : MpF w 9 m n f) :
    Calls Try.prog 31 #[.map (some m)] w fun e w' => e = .returned (.map (some w.heap.size)) ∧ MpF w' 9 w.heap.size n f ∧ MpF w' 9 m n f ∧ Below w.heap.size w w' := by
  obtain ⟨D, h⟩ := h
  refine (AnyW.maps_Clone_owns clone_laid 9 anyE m n D w h.own).mono fun e w' ⟨he, h1, h2, hb⟩ => ⟨he, ⟨D, h1, h.size, h.has, h.val⟩, ⟨D, h2, h.size, h.has, h.val⟩, hb⟩
end Go.Proofs.Ytjpmjidpdgikgaa
