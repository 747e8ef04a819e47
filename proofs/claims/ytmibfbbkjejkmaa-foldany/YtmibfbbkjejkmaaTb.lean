/- The two partitions, as plain arrays: what is kept while two indices come together. No program. -/
import Derived.Test.YtmibfbbkjejkmaaTa
namespace Go.Proofs.Ytmibfbbkjejkmaa
open Go.Sort (swp ltInt size_swp PermIn SortedIn swp_get permIn_trans permIn_refl swp_permIn)

/-- Of a + 1 .. i - 1 all are low ones, of j + 1 .. b - 1 none is. -/
structure PInv (lw : Int → Bool) (p : Int) (d x : Array Int) (a b i j : Nat) : Prop where
  size : x.size = d.size
  fits : b ≤ d.size
  perm : PermIn a b d x
  piv : x[a]! = p
  ai : a < i
  ij : i ≤ j + 1
  jb : j < b
  lo : ∀ k, a < k → k < i → lw x[k]! = true
  hi : ∀ k, j < k → k < b → lw x[k]! = false

theorem PInv.start (lw : Int → Bool) {d : Array Int} {a b pv : Nat} (h1 : a ≤ pv) (h2 : pv < b) (h3 : b ≤ d.size) : PInv lw d[pv]! d (swp d a pv) a b (a + 1) (b - 1) := by
  refine ⟨size_swp _ _ _, h3, swp_permIn _ _ _ _ _ (Nat.le_refl _) (by omega) h1 h2 h3, ?_, by omega, by omega, by omega, fun k _ _ => by omega, fun k _ _ => by omega⟩
  rw [swp_get d (by omega) (by omega)]
  split
  · rename_i h; rw [h]
  · rw [if_pos rfl]
theorem PInv.up {lw : Int → Bool} {p : Int} {d x : Array Int} {a b i j : Nat} (h : PInv lw p d x a b i j) (hij : i ≤ j) (hl : lw x[i]! = true) : PInv lw p d x a b (i + 1) j :=
  ⟨h.size, h.fits, h.perm, h.piv, by have := h.ai; omega, by omega, h.jb, fun k h1 h2 => by
    by_cases e : k = i
    · rw [e]; exact hl
    · exact h.lo k h1 (by omega), h.hi⟩
theorem PInv.down {lw : Int → Bool} {p : Int} {d x : Array Int} {a b i j : Nat} (h : PInv lw p d x a b i j) (hij : i ≤ j) (hl : lw x[j]! = false) : PInv lw p d x a b i (j - 1) :=
  ⟨h.size, h.fits, h.perm, h.piv, h.ai, by omega, by have := h.jb; omega, h.lo, fun k h1 h2 => by
    by_cases e : k = j
    · rw [e]; exact hl
    · exact h.hi k (by omega) h2⟩
theorem PInv.swap {lw : Int → Bool} {p : Int} {d x : Array Int} {a b i j : Nat} (h : PInv lw p d x a b i j) (hij : i ≤ j) (h1 : lw x[i]! = false) (h2 : lw x[j]! = true) : PInv lw p d (swp x i j) a b (i + 1) (j - 1) := by
  have hne : i ≠ j := by rintro rfl; rw [h1] at h2; cases h2
  have := h.ai
  have := h.jb
  have := h.fits
  have hz := h.size
  have hg := fun k => swp_get x (i := i) (j := j) (by omega) (by omega) k
  refine ⟨by rw [size_swp, hz], h.fits, permIn_trans _ _ _ _ _ h.perm (swp_permIn _ _ _ _ _ (by omega) (by omega) (by omega) (by omega) (by omega)), ?_, by omega, by omega, by omega, fun k k1 k2 => ?_, fun k k1 k2 => ?_⟩
  · rw [hg, if_neg (by omega), if_neg (by omega)]; exact h.piv
  · rw [hg, if_neg (by omega)]
    by_cases e : k = i
    · rw [if_pos e]; exact h2
    · rw [if_neg e]; exact h.lo k k1 (by omega)
  · rw [hg]
    by_cases e : k = j
    · rw [if_pos e]; exact h1
    · rw [if_neg e, if_neg (by omega)]; exact h.hi k (by omega) k2

/-- What the partition answers. -/
structure Parted (d x : Array Int) (a b m : Nat) : Prop where
  size : x.size = d.size
  perm : PermIn a b d x
  am : a ≤ m
  mb : m < b
  lo : ∀ k, a ≤ k → k < m → ltInt x[k]! x[m]! = true
  hi : ∀ k, m < k → k < b → ltInt x[k]! x[m]! = false
theorem PInv.final {p : Int} {d x : Array Int} {a b i j : Nat} (h : PInv (fun y => ltInt y p) p d x a b i j) (hij : j < i) : Parted d (swp x j a) a b j := by
  obtain rfl : i = j + 1 := by have := h.ij; omega
  have := h.ai
  have := h.jb
  have := h.fits
  have hz := h.size
  have hg := fun k => swp_get x (i := j) (j := a) (by omega) (by omega) k
  have hm : (swp x j a)[j]! = p := by
    rw [hg]
    by_cases e : j = a
    · rw [if_pos e, e]; exact h.piv
    · rw [if_neg e, if_pos rfl]; exact h.piv
  refine ⟨by rw [size_swp, hz], permIn_trans _ _ _ _ _ h.perm (swp_permIn _ _ _ _ _ (by omega) (by omega) (by omega) (by omega) (by omega)), by omega, by omega, fun k k1 k2 => ?_, fun k k1 k2 => ?_⟩
  · rw [hm, hg]
    by_cases e : k = a
    · rw [if_pos e]; exact h.lo j (by omega) (by omega)
    · rw [if_neg e, if_neg (by omega)]; exact h.lo k (by omega) (by omega)
  · rw [hm, hg, if_neg (by omega), if_neg (by omega)]
    exact h.hi k k1 k2

/-- What the partition of equal ones answers. -/
structure PartEq (d x : Array Int) (a b m : Nat) (p : Int) : Prop where
  size : x.size = d.size
  perm : PermIn a b d x
  am : a < m
  mb : m ≤ b
  lo : ∀ k, a ≤ k → k < m → ltInt p x[k]! = false
  hi : ∀ k, m ≤ k → k < b → ltInt p x[k]! = true
theorem PInv.ends {p : Int} {d x : Array Int} {a b i j : Nat} (h : PInv (fun y => !ltInt p y) p d x a b i j) (hij : j < i) : PartEq d x a b i p := by
  obtain rfl : i = j + 1 := by have := h.ij; omega
  refine ⟨h.size, h.perm, h.ai, by have := h.jb; omega, fun k k1 k2 => ?_, fun k k1 k2 => ?_⟩
  · by_cases e : k = a
    · rw [e, h.piv]; exact Go.Sort.swo_ltInt.irrefl p
    · simpa using h.lo k (by omega) k2
  · simpa using h.hi k (by omega) k2

end Go.Proofs.Ytmibfbbkjejkmaa
