/- The bytes of a vector: how many numbers are written, and the fields. Plain numbers, no program. -/
import Derived.Test.YtjfcddfnmbeolaaMath
import Derived.Test.YtjfcddfnmbeolaaV
namespace Go.Proofs.Ytjfcddfnmbeolaa
namespace V

/-- One more than the last index below k whose number is not 0. -/
def lenFrom (v : V) : Nat → Nat
  | 0 => 0
  | k + 1 => if v.at_ k = 0 then lenFrom v k else k + 1
def len (v : V) : Nat := lenFrom v 16

theorem lenFrom_le (v : V) : ∀ k, lenFrom v k ≤ k
  | 0 => Nat.le_refl _
  | k + 1 => by
    have := lenFrom_le v k
    simp only [lenFrom]
    split <;> omega
theorem len_le (v : V) : len v ≤ 16 := lenFrom_le v 16
theorem lenFrom_stop (v : V) {k : Nat} (h : v.at_ k ≠ 0) : lenFrom v (k + 1) = k + 1 := by simp [lenFrom, h]
theorem lenFrom_go (v : V) {k : Nat} (h : v.at_ k = 0) : lenFrom v (k + 1) = lenFrom v k := by simp [lenFrom, h]
theorem lenFrom_zero (v : V) : ∀ (k i : Nat), lenFrom v k ≤ i → i < k → v.at_ i = 0
  | 0, _, _, h => by omega
  | k + 1, i, h, hi => by
    by_cases h0 : v.at_ k = 0
    · rw [lenFrom_go v h0] at h
      by_cases e : i = k
      · subst e; exact h0
      · exact lenFrom_zero v k i h (by omega)
    · rw [lenFrom_stop v h0] at h
      omega
theorem lenFrom_last (v : V) : ∀ k, lenFrom v k ≠ 0 → v.at_ (lenFrom v k - 1) ≠ 0
  | 0, h => absurd rfl h
  | k + 1, h => by
    by_cases h0 : v.at_ k = 0
    · rw [lenFrom_go v h0] at h ⊢
      exact lenFrom_last v k h
    · rw [lenFrom_stop v h0]
      exact h0
theorem lenFrom_eq (v : V) : ∀ (k n : Nat), n ≤ k → (∀ i, n ≤ i → i < k → v.at_ i = 0) → (n ≠ 0 → v.at_ (n - 1) ≠ 0) → lenFrom v k = n
  | 0, n, h, _, _ => by have : n = 0 := by omega
                        subst this; rfl
  | k + 1, n, h, h1, h2 => by
    by_cases e : n = k + 1
    · subst e
      exact lenFrom_stop v (h2 (by omega))
    · rw [lenFrom_go v (h1 k (by omega) (by omega))]
      exact lenFrom_eq v k n (by omega) (fun i hi hk => h1 i hi (by omega)) h2

/-- A count n, and the first k numbers. -/
def bytesTo (v : V) (n : Nat) : Nat → List Nat
  | 0 => Vint.enc n
  | k + 1 => bytesTo v n k ++ Vint.enc (v.at_ k)
/-- The bytes of a vector. -/
def bytes (v : V) : List Nat := bytesTo v (len v) (len v)

theorem bytesTo_le (v : V) {n : Nat} (hn : n ≤ 16) : ∀ k, (bytesTo v n k).length ≤ 10 + 10 * k
  | 0 => Vint.enc_ten (by omega)
  | k + 1 => by
    have h1 := bytesTo_le v hn k
    have h2 : (Vint.enc (v.at_ k)).length ≤ 10 := Vint.enc_ten (by have := v.lt k; omega)
    simp only [bytesTo, List.length_append]
    omega
theorem bytesTo_lt (v : V) (n : Nat) : ∀ k, ∀ c ∈ bytesTo v n k, c < 256
  | 0 => Vint.enc_lt n
  | k + 1 => by
    intro c hc
    rcases List.mem_append.1 hc with hc | hc
    · exact bytesTo_lt v n k c hc
    · exact Vint.enc_lt _ c hc
theorem bytes_le (v : V) : (bytes v).length ≤ 170 := by
  have h := bytesTo_le v (len_le v) (len v)
  have := len_le v
  unfold bytes
  omega
theorem bytes_lt (v : V) : ∀ c ∈ bytes v, c < 256 := bytesTo_lt v _ _

end V
end Go.Proofs.Ytjfcddfnmbeolaa
