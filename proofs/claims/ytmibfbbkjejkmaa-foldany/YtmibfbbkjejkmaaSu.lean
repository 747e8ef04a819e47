/- A slice of uint16 numbers that is being sorted: its block, whole, and that nothing else turns. Walks of cmp.Less and of the insertion sort. -/
import Derived.Test.YtmibfbbkjejkmaaHx
import Derived.Sort.AssemblyPlain
import Derived.CellFam
import Derived.BigGuard
import Derived.BigCall
import Derived.BigRegion
import Derived.Deep.Draws
import Derived.Deep.QuietTactic
import Derived.BigQuiet
namespace Go.Proofs.Ytmibfbbkjejkmaa
open Go.RowKit
open Go.Sort (swp ltInt)

/-- The number of a slot. -/
def numI : Value → Int
  | .int _ z => z
  | _ => 0

def encU (d : Array Int) : Array Value := d.map fun n => Value.int .u16 n

/-- The slice's block holds d, and r behind it; of what was there ahead nothing else has turned. -/
structure Sr (w W : World) (b o : Nat) (r : Array Value) (d : Array Int) : Prop where
  zero : o = 0
  blk : Blk W b 34 (encU d ++ r)
  kept : Kept (fun k => k = b) w W

theorem encU_size (d : Array Int) : (encU d).size = d.size := by simp [encU]
theorem encU_at (d : Array Int) (r : Array Value) {i : Nat} (h : i < d.size) : (encU d ++ r)[i]? = some (.int .u16 d[i]!) := by
  rw [Array.getElem?_append_left (by rw [encU_size]; exact h)]
  simp [encU, h]
theorem encU_set (d : Array Int) (r : Array Value) {i : Nat} (h : i < d.size) (x : Int) : (encU d ++ r).setIfInBounds i (.int .u16 x) = encU (d.setIfInBounds i x) ++ r := by
  apply Array.ext_getElem?
  intro k
  by_cases hk : i = k
  · subst hk
    rw [encU_at _ _ (by simpa using h), Array.getElem?_setIfInBounds, if_pos rfl, if_pos (by simp [encU_size]; omega)]
    simp [h]
  · rw [Array.getElem?_setIfInBounds, if_neg hk]
    by_cases hs : k < d.size
    · rw [encU_at _ _ hs, encU_at _ _ (by simpa using hs)]
      simp [hs, hk]
    · rw [Array.getElem?_append_right (by rw [encU_size]; omega), Array.getElem?_append_right (by rw [encU_size]; simp; omega)]
      simp [encU_size]

theorem Sr.cell {w W : World} {b o : Nat} {r : Array Value} {d : Array Int} (h : Sr w W b o r d) {i : Nat} (hi : i < d.size) : W.cell? ⟨b, o + i, none⟩ = some (.int .u16 d[i]!) := by
  rw [h.zero, Nat.zero_add, h.blk.cell, encU_at _ _ hi]
theorem Sr.frozen {w W : World} {b o : Nat} {r : Array Value} {d : Array Int} (h : Sr w W b o r d) (i : Nat) : W.frozen? ⟨b, o + i, none⟩ = false := h.blk.frozen _
theorem Sr.set {w W : World} {b o : Nat} {r : Array Value} {d : Array Int} (h : Sr w W b o r d) {i : Nat} (hi : i < d.size) (x : Int) : Sr w (W.setCell ⟨b, o + i, none⟩ (.int .u16 x)) b o r (d.setIfInBounds i x) := by
  refine ⟨h.zero, ?_, h.kept.trans (Kept.setCell W _ _) (fun k hk => .inl hk)⟩
  rw [← encU_set d r hi, h.zero, Nat.zero_add]
  exact h.blk.set i _
theorem Sr.drawn {w W : World} {b o : Nat} {r : Array Value} {d : Array Int} (h : Sr w W b o r d) (q : Nat) : Sr w (W.drewN q) b o r d := ⟨h.zero, h.blk, h.kept.os, h.kept.tape, h.kept.output, h.kept.size, h.kept.block⟩
theorem Sr.swap {w W : World} {b o : Nat} {r : Array Value} {d : Array Int} (h : Sr w W b o r d) {i j : Nat} (hi : i < d.size) (hj : j < d.size) (q : Nat) {x y : Int} (hx : x = d[j]!) (hy : y = d[i]!) :
    Sr w (((W.drewN q).setCell ⟨b, o + i, none⟩ (.int .u16 x)).setCell ⟨b, o + j, none⟩ (.int .u16 y)) b o r (swp d i j) := by
  subst hx hy
  exact ((h.drawn q).set hi _).set (by simpa using hj) _
theorem Sr.start {w : World} {b o : Nat} {r : Array Value} {d : Array Int} (h0 : o = 0) (h : Blk w b 34 (encU d ++ r)) : Sr w w b o r d := ⟨h0, h, Kept.refl _ _⟩

theorem less16 (x y : Int) (w : World) : Calls Try.prog 54 #[.int .u16 x, .int .u16 y] w fun e w' => e = .returned (.bool (ltInt x y)) ∧ w = w' := by
  unfold ltInt
  go_enter Try.func54, Try.ntmps54
  go_wp2
  go_ret
  exact ⟨rfl, rfl⟩

theorem less16' (x y : Int) (w : World) : Calls Try.prog 54 #[.int .u16 x, .int .u16 y] w fun e w' => e = .returned (.bool (ltInt x y)) ∧ w' = w := (less16 x y w).mono fun _ _ h => ⟨h.1, h.2.symm⟩

end Go.Proofs.Ytmibfbbkjejkmaa
