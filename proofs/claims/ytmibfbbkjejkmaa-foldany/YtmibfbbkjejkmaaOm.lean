/- Operations as plain numbers: which may be, how far one stands, which comes first, which ends which, its bytes, and what the fields of any bytes come to. No program. -/
import Derived.Test.YtmibfbbkjejkmaaV
namespace Go.Proofs.Ytmibfbbkjejkmaa

/-- An operation: replica and number, kind, cart, item, quantity, tick, and the vector of what was known. -/
structure O where
  r : Nat
  s : Nat
  k : Nat
  c : Nat
  i : Nat
  q : Nat
  t : Nat
  v : V
  hr : r < 256
  hs : s < 4294967296
  hk : k < 256
  hc : c < 65536
  hi : i < 65536
  hq : q < 65536
  ht : t < 4294967296

namespace O

theorem ext' {a b : O} (h0 : a.r = b.r) (h1 : a.s = b.s) (h2 : a.k = b.k) (h3 : a.c = b.c) (h4 : a.i = b.i) (h5 : a.q = b.q) (h6 : a.t = b.t) (h7 : a.v = b.v) : a = b := by
  cases a; cases b
  simp only at h0 h1 h2 h3 h4 h5 h6 h7
  subst h0 h1 h2 h3 h4 h5 h6 h7
  rfl

/-- The operation whose fields are all 0. -/
def zero : O := ⟨0, 0, 0, 0, 0, 0, 0, V.zero, by omega, by omega, by omega, by omega, by omega, by omega, by omega⟩

/-- Kind, item and quantity such as may be. -/
def kindB (o : O) : Bool := decide ((o.k = 1 ∧ 1 ≤ o.q) ∨ o.k = 2 ∨ (o.k = 3 ∧ o.q = 0) ∨ ((o.k = 4 ∨ o.k = 5) ∧ o.i = 0 ∧ o.q = 0))
/-- Valid for n replicas. -/
def rightB (o : O) (n : Int) : Bool := decide (V.dotB o.r o.s = true ∧ o.v.at_ o.r + 1 = o.s ∧ (o.r : Int) < n ∧ V.rightB o.v n = true ∧ o.t ≤ 1073741824 ∧ o.kindB = true)
def count (o : O) : Nat := V.sum o.v + 1
def lessB (a b : O) : Bool := decide (a.count < b.count ∨ (a.count = b.count ∧ (a.r < b.r ∨ (a.r = b.r ∧ a.s < b.s))))
/-- It makes an entry. -/
def laysB (o : O) : Bool := decide (o.k = 1 ∨ o.k = 2 ∨ o.k = 4)
def endsB (o e : O) : Bool := decide (e.laysB = true ∧ o.c = e.c ∧ V.hasB o.v e.r e.s = true ∧ (o.k = 5 ∨ ((o.k = 3 ∨ o.k = 2) ∧ e.k ≠ 4 ∧ o.i = e.i)))
def readyE (v : V) (o : O) : Nat := if o.rightB 16 = true then (if V.hasB v o.r o.s = true then 8 else if V.belowB o.v v = true then 0 else 9) else 2

theorem count_lt (o : O) : o.count ≤ 68719476721 := by have := V.sum_lt o.v; unfold count; omega

theorem right_iff (o : O) (n : Int) : o.rightB n = true ↔ V.dotB o.r o.s = true ∧ o.v.at_ o.r + 1 = o.s ∧ (o.r : Int) < n ∧ V.rightB o.v n = true ∧ o.t ≤ 1073741824 ∧ o.kindB = true := by
  unfold rightB; rw [decide_eq_true_eq]
theorem right_no {o : O} {n : Int} (h : ¬ (V.dotB o.r o.s = true ∧ o.v.at_ o.r + 1 = o.s ∧ (o.r : Int) < n ∧ V.rightB o.v n = true ∧ o.t ≤ 1073741824 ∧ o.kindB = true)) : o.rightB n = false := by
  rw [← Bool.not_eq_true, right_iff]; exact h

theorem next_zero (v : V) (r s : Nat) : V.nextE v r s = 0 ↔ V.dotB r s = true ∧ v.at_ r + 1 = s := by
  unfold V.nextE V.hasB
  cases h : V.dotB r s
  · simp
  · have hd : 1 ≤ s := by
      have : r < 16 ∧ 1 ≤ s ∧ s ≤ 1048576 := by simpa [V.dotB] using h
      omega
    simp only [if_true, Bool.true_and, decide_eq_true_eq, true_and]
    split
    · omega
    · split <;> omega

end O
end Go.Proofs.Ytmibfbbkjejkmaa
