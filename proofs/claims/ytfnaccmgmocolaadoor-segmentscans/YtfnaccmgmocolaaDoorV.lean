/- Vectors as sixteen numbers below 2^63: joined, met, compared, summed, and what a dot adds. Plain numbers, no program. The bytes of a vector: how many numbers are written, and the fields. Plain numbers, no program. -/
import Derived.Test.YtfnaccmgmocolaaDoorMath
namespace Go.Proofs.YtfnaccmgmocolaaDoor

/-- Sixteen numbers below 2^32. -/
def V : Type := { l : List Nat // l.length = 16 ∧ ∀ x ∈ l, x < 4294967296 }

instance : DecidableEq V := inferInstanceAs (DecidableEq { l : List Nat // l.length = 16 ∧ ∀ x ∈ l, x < 4294967296 })

namespace V

/-- The number at an index. -/
def at_ (v : V) (i : Nat) : Nat := v.1.getD i 0

theorem lt (v : V) (i : Nat) : v.at_ i < 4294967296 := by
  unfold at_
  by_cases h : i < v.1.length
  · have : v.1.getD i 0 = v.1[i] := by simp [List.getD, h]
    rw [this]
    exact v.2.2 _ (List.getElem_mem h)
  · have : v.1.getD i 0 = 0 := by simp [List.getD, h]
    omega

/-- The vector of a function's first sixteen numbers. -/
def of (f : Nat → Nat) : V := ⟨(List.range 16).map fun i => f i % 4294967296, by simp, by
  intro x hx
  obtain ⟨i, _, rfl⟩ := List.mem_map.1 hx
  exact Nat.mod_lt _ (by omega)⟩

theorem of_at (f : Nat → Nat) {i : Nat} (h : i < 16) (hf : f i < 4294967296) : (of f).at_ i = f i := by
  show ((List.range 16).map fun i => f i % 4294967296).getD i 0 = f i
  simp [List.getD, h, Nat.mod_eq_of_lt hf]

theorem ext {a b : V} (h : ∀ i, i < 16 → a.at_ i = b.at_ i) : a = b := by
  apply Subtype.ext
  apply List.ext_getElem (by rw [a.2.1, b.2.1])
  intro i h1 h2
  have := h i (by rw [a.2.1] at h1; exact h1)
  simpa [at_, List.getD, h1, h2] using this

/-- The greater number at each index. -/
def join (a b : V) : V := of fun i => max (a.at_ i) (b.at_ i)
/-- The smaller number at each index. -/
def meet (a b : V) : V := of fun i => min (a.at_ i) (b.at_ i)
/-- One number set. -/
def put (v : V) (r s : Nat) : V := of fun i => if i = r then s else v.at_ i
/-- All numbers 0. -/
def zero : V := of fun _ => 0

theorem join_at (a b : V) {i : Nat} (h : i < 16) : (join a b).at_ i = max (a.at_ i) (b.at_ i) :=
  of_at _ h (by have := a.lt i; have := b.lt i; omega)
theorem meet_at (a b : V) {i : Nat} (h : i < 16) : (meet a b).at_ i = min (a.at_ i) (b.at_ i) :=
  of_at _ h (by have := a.lt i; have := b.lt i; omega)
theorem put_at (v : V) (r s : Nat) {i : Nat} (h : i < 16) (hs : s < 4294967296) : (put v r s).at_ i = if i = r then s else v.at_ i :=
  of_at _ h (by have := v.lt i; split <;> omega)
theorem zero_at (i : Nat) : zero.at_ i = 0 := by
  by_cases h : i < 16
  · exact of_at _ h (by omega)
  · show zero.1.getD i 0 = 0
    have : ¬ i < zero.1.length := by rw [zero.2.1]; exact h
    simp [List.getD, this]

/-- The first k numbers joined. -/
def joinTo (a b : V) (k : Nat) : V := of fun i => if i < k then max (a.at_ i) (b.at_ i) else a.at_ i
/-- The first k numbers met. -/
def meetTo (a b : V) (k : Nat) : V := of fun i => if i < k then min (a.at_ i) (b.at_ i) else a.at_ i

theorem joinTo_at (a b : V) (k : Nat) {i : Nat} (h : i < 16) : (joinTo a b k).at_ i = if i < k then max (a.at_ i) (b.at_ i) else a.at_ i :=
  of_at _ h (by have := a.lt i; have := b.lt i; split <;> omega)
theorem meetTo_at (a b : V) (k : Nat) {i : Nat} (h : i < 16) : (meetTo a b k).at_ i = if i < k then min (a.at_ i) (b.at_ i) else a.at_ i :=
  of_at _ h (by have := a.lt i; have := b.lt i; split <;> omega)
theorem joinTo_zero (a b : V) : joinTo a b 0 = a := ext fun i h => by rw [joinTo_at a b 0 h]; simp
theorem meetTo_zero (a b : V) : meetTo a b 0 = a := ext fun i h => by rw [meetTo_at a b 0 h]; simp
theorem joinTo_all (a b : V) : joinTo a b 16 = join a b := ext fun i h => by rw [joinTo_at a b 16 h, join_at a b h, if_pos h]
theorem meetTo_all (a b : V) : meetTo a b 16 = meet a b := ext fun i h => by rw [meetTo_at a b 16 h, meet_at a b h, if_pos h]
theorem joinTo_succ (a b : V) {k : Nat} (hk : k < 16) : joinTo a b (k + 1) = put (joinTo a b k) k (max (a.at_ k) (b.at_ k)) := ext fun i h => by
  have h1 := a.lt k
  have h2 := b.lt k
  rw [joinTo_at a b _ h, put_at _ _ _ h (by omega), joinTo_at a b _ h]
  by_cases e : i = k
  · subst e; simp
  · by_cases e2 : i < k
    · rw [if_pos (by omega), if_neg e, if_pos e2]
    · rw [if_neg (by omega), if_neg e, if_neg e2]
theorem meetTo_succ (a b : V) {k : Nat} (hk : k < 16) : meetTo a b (k + 1) = put (meetTo a b k) k (min (a.at_ k) (b.at_ k)) := ext fun i h => by
  have h1 := a.lt k
  have h2 := b.lt k
  rw [meetTo_at a b _ h, put_at _ _ _ h (by omega), meetTo_at a b _ h]
  by_cases e : i = k
  · subst e; simp
  · by_cases e2 : i < k
    · rw [if_pos (by omega), if_neg e, if_pos e2]
    · rw [if_neg (by omega), if_neg e, if_neg e2]
theorem joinTo_here (a b : V) {k : Nat} (hk : k < 16) : (joinTo a b k).at_ k = a.at_ k := by rw [joinTo_at a b k hk]; simp
theorem meetTo_here (a b : V) {k : Nat} (hk : k < 16) : (meetTo a b k).at_ k = a.at_ k := by rw [meetTo_at a b k hk]; simp

/-- Equal, below. -/
def eqB (a b : V) : Bool := decide (a = b)
def belowB (a b : V) : Bool := (List.range 16).all fun i => decide (a.at_ i ≤ b.at_ i)

theorem belowB_iff (a b : V) : belowB a b = true ↔ ∀ i, i < 16 → a.at_ i ≤ b.at_ i := by simp [belowB]
theorem eqB_iff (a b : V) : eqB a b = true ↔ a = b := by simp [eqB]

theorem join_eq_iff (a b : V) : join a b = b ↔ belowB a b = true := by
  rw [belowB_iff]
  constructor
  · intro h i hi
    have := congrArg (fun v => v.at_ i) h
    simp only [join_at a b hi] at this
    omega
  · intro h
    exact ext fun i hi => by rw [join_at a b hi]; have := h i hi; omega

theorem below_join (a b : V) : eqB (join a b) b = belowB a b := by
  rw [Bool.eq_iff_iff, eqB_iff]; exact join_eq_iff a b

/-- How two stand to each other. -/
def order (a b : V) : Int := if eqB a b = true then 0 else if belowB a b = true then -1 else if belowB b a = true then 1 else 2

/-- The sum of the first k numbers. -/
def sumTo (v : V) : Nat → Nat
  | 0 => 0
  | k + 1 => sumTo v k + v.at_ k
def sum (v : V) : Nat := sumTo v 16

theorem sumTo_lt (v : V) : ∀ k, sumTo v k ≤ k * 4294967295
  | 0 => by simp [sumTo]
  | k + 1 => by have := sumTo_lt v k; have := v.lt k; simp only [sumTo]; omega
theorem sum_lt (v : V) : sum v ≤ 68719476720 := sumTo_lt v 16

/-- Valid for n replicas: the first k numbers. -/
def rightTo (v : V) (n : Int) (k : Nat) : Bool := (List.range k).all fun i => decide (v.at_ i ≤ 1048576 ∧ (n ≤ (i : Int) → v.at_ i = 0))
theorem rightTo_iff (v : V) (n : Int) (k : Nat) : rightTo v n k = true ↔ ∀ i, i < k → v.at_ i ≤ 1048576 ∧ (n ≤ (i : Int) → v.at_ i = 0) := by
  simp only [rightTo, List.all_eq_true, List.mem_range, decide_eq_true_eq]
def rightB (v : V) (n : Int) : Bool := decide (1 ≤ n ∧ n ≤ 16) && rightTo v n 16

theorem rightTo_succ (v : V) (n : Int) (k : Nat) (h : rightTo v n k = true) (h1 : v.at_ k ≤ 1048576) (h2 : n ≤ (k : Int) → v.at_ k = 0) : rightTo v n (k + 1) = true := by
  rw [rightTo_iff] at h ⊢
  intro i hi
  by_cases e : i = k
  · subst e; exact ⟨h1, h2⟩
  · exact h i (by omega)
theorem rightTo_not (v : V) (n : Int) {k : Nat} (hk : k < 16) (h : 1048576 < v.at_ k ∨ (n ≤ (k : Int) ∧ v.at_ k ≠ 0)) : rightTo v n 16 = false := by
  rw [← Bool.not_eq_true, rightTo_iff]
  intro hh
  have := hh k hk
  rcases h with h | ⟨h1, h2⟩
  · omega
  · exact h2 (this.2 h1)
theorem rightTo_zero (v : V) (n : Int) : rightTo v n 0 = true := by simp [rightTo]

/-- A dot that may be; whether a vector has it. -/
def dotB (r s : Nat) : Bool := decide (r < 16 ∧ 1 ≤ s ∧ s ≤ 1048576)
def hasB (v : V) (r s : Nat) : Bool := dotB r s && decide (s ≤ v.at_ r)
/-- The error, and the vector, of one more. -/
def nextE (v : V) (r s : Nat) : Nat := if dotB r s = true then (if hasB v r s = true then 8 else if 1 < s - v.at_ r then 9 else 0) else 2
def nextV (v : V) (r s : Nat) : V := if nextE v r s = 0 then put v r s else zero

end V
end Go.Proofs.YtfnaccmgmocolaaDoor

namespace Go.Proofs.YtfnaccmgmocolaaDoor
namespace V

/-- One more than the last index below k whose number is not 0. -/
def lenFrom (v : V) : Nat → Nat
  | 0 => 0
  | k + 1 => if v.at_ k = 0 then lenFrom v k else k + 1
def len (v : V) : Nat := lenFrom v 16

theorem lenFrom_le (v : V) : ∀ k, lenFrom v k ≤ k
  | 0 => Nat.le_refl _
  | k + 1 => by
    have := lenFrom_le v k
    simp only [lenFrom]
    split <;> omega
theorem len_le (v : V) : len v ≤ 16 := lenFrom_le v 16
theorem lenFrom_stop (v : V) {k : Nat} (h : v.at_ k ≠ 0) : lenFrom v (k + 1) = k + 1 := by simp [lenFrom, h]
theorem lenFrom_go (v : V) {k : Nat} (h : v.at_ k = 0) : lenFrom v (k + 1) = lenFrom v k := by simp [lenFrom, h]
theorem lenFrom_zero (v : V) : ∀ (k i : Nat), lenFrom v k ≤ i → i < k → v.at_ i = 0
  | 0, _, _, h => by omega
  | k + 1, i, h, hi => by
    by_cases h0 : v.at_ k = 0
    · rw [lenFrom_go v h0] at h
      by_cases e : i = k
      · subst e; exact h0
      · exact lenFrom_zero v k i h (by omega)
    · rw [lenFrom_stop v h0] at h
      omega
theorem lenFrom_last (v : V) : ∀ k, lenFrom v k ≠ 0 → v.at_ (lenFrom v k - 1) ≠ 0
  | 0, h => absurd rfl h
  | k + 1, h => by
    by_cases h0 : v.at_ k = 0
    · rw [lenFrom_go v h0] at h ⊢
      exact lenFrom_last v k h
    · rw [lenFrom_stop v h0]
      exact h0
theorem lenFrom_eq (v : V) : ∀ (k n : Nat), n ≤ k → (∀ i, n ≤ i → i < k → v.at_ i = 0) → (n ≠ 0 → v.at_ (n - 1) ≠ 0) → lenFrom v k = n
  | 0, n, h, _, _ => by have : n = 0 := by omega
                        subst this; rfl
  | k + 1, n, h, h1, h2 => by
    by_cases e : n = k + 1
    · subst e
      exact lenFrom_stop v (h2 (by omega))
    · rw [lenFrom_go v (h1 k (by omega) (by omega))]
      exact lenFrom_eq v k n (by omega) (fun i hi hk => h1 i hi (by omega)) h2

/-- A count n, and the first k numbers. -/
def bytesTo (v : V) (n : Nat) : Nat → List Nat
  | 0 => Vint.enc n
  | k + 1 => bytesTo v n k ++ Vint.enc (v.at_ k)
/-- The bytes of a vector. -/
def bytes (v : V) : List Nat := bytesTo v (len v) (len v)

theorem bytesTo_le (v : V) {n : Nat} (hn : n ≤ 16) : ∀ k, (bytesTo v n k).length ≤ 10 + 10 * k
  | 0 => Vint.enc_ten (by omega)
  | k + 1 => by
    have h1 := bytesTo_le v hn k
    have h2 : (Vint.enc (v.at_ k)).length ≤ 10 := Vint.enc_ten (by have := v.lt k; omega)
    simp only [bytesTo, List.length_append]
    omega
theorem bytesTo_lt (v : V) (n : Nat) : ∀ k, ∀ c ∈ bytesTo v n k, c < 256
  | 0 => Vint.enc_lt n
  | k + 1 => by
    intro c hc
    rcases List.mem_append.1 hc with hc | hc
    · exact bytesTo_lt v n k c hc
    · exact Vint.enc_lt _ c hc
theorem bytes_le (v : V) : (bytes v).length ≤ 170 := by
  have h := bytesTo_le v (len_le v) (len v)
  have := len_le v
  unfold bytes
  omega
theorem bytes_lt (v : V) : ∀ c ∈ bytes v, c < 256 := bytesTo_lt v _ _

end V
end Go.Proofs.YtfnaccmgmocolaaDoor
