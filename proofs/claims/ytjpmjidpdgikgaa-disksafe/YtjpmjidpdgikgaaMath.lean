/- Plain facts about numbers in seven bits a byte, on natural numbers and lists: what a number's bytes are, what a list of bytes begins with, and that both belong together. No condition but the sizes that each fact names. Walks of the functions of layer 2 that make no memory: Fold, Unfold and fits of the program, Fold and Unfold of the document's answer. -/
import Derived.Laws.BitsAllLaws
import Derived.Test.YtjpmjidpdgikgaaRows
import Derived.WalkKit
import Derived.WalkSpells
import Derived.WalkLawsBesides
import Derived.Lib.Hide
namespace Go.Proofs.Ytjpmjidpdgikgaa
namespace Vint

/-- The bytes of a number, as the document says them. -/
def enc (n : Nat) : List Nat := if n < 128 then [n] else (n % 128 + 128) :: enc (n / 128)
termination_by n
decreasing_by omega

theorem enc_small {n : Nat} (h : n < 128) : enc n = [n] := by rw [enc, if_pos h]
theorem enc_big {n : Nat} (h : 128 ≤ n) : enc n = (n % 128 + 128) :: enc (n / 128) := by rw [enc, if_neg (by omega)]

theorem enc_300 : enc 300 = [172, 2] := by rw [enc_big (by omega), enc_small (by omega)]

theorem enc_pos (n : Nat) : 0 < (enc n).length := by
  rcases Nat.lt_or_ge n 128 with h | h
  · rw [enc_small h]; simp
  · rw [enc_big h]; simp

theorem enc_lt (n : Nat) : ∀ c ∈ enc n, c < 256 := by
  induction n using Nat.strongRecOn with
  | ind n ih =>
    intro c hc
    rcases Nat.lt_or_ge n 128 with h | h
    · rw [enc_small h] at hc; simp at hc; omega
    · rw [enc_big h] at hc
      rcases List.mem_cons.1 hc with h1 | h1
      · omega
      · exact ih (n / 128) (by omega) c h1

theorem enc_len_le : ∀ (k n : Nat), n < 128 ^ (k + 1) → (enc n).length ≤ k + 1
  | 0, n, h => by rw [enc_small (by simpa using h)]; simp
  | k + 1, n, h => by
    rcases Nat.lt_or_ge n 128 with h1 | h1
    · rw [enc_small h1]; simp
    · rw [enc_big h1]
      have : n / 128 < 128 ^ (k + 1) := by
        apply Nat.div_lt_of_lt_mul
        rw [Nat.pow_succ, Nat.mul_comm] at h
        exact h
      have := enc_len_le k (n / 128) this
      simp; omega

theorem enc_ten {n : Nat} (h : n < 18446744073709551616) : (enc n).length ≤ 10 := enc_len_le 9 n (Nat.lt_of_lt_of_le h (by decide))

theorem enc_two {n : Nat} (h : 128 ≤ n) : 2 ≤ (enc n).length := by
  rw [enc_big h]
  have := enc_pos (n / 128)
  simp; omega

theorem enc_mono : ∀ (a b : Nat), a ≤ b → (enc a).length ≤ (enc b).length := by
  intro a
  induction a using Nat.strongRecOn with
  | ind a ih =>
    intro b hab
    rcases Nat.lt_or_ge a 128 with h | h
    · rw [enc_small h]; exact enc_pos b
    · rw [enc_big h, enc_big (show 128 ≤ b by omega)]
      have := ih (a / 128) (by omega) (b / 128) (by omega)
      simp; omega

/-- The number at the beginning of bytes, its length and the error, at place i with acc behind. -/
def G : Nat → Nat → List Nat → Nat × Nat × Nat
  | _, _, [] => (0, 0, 4)
  | i, acc, c :: t =>
    if i = 9 then (if c = 1 then (acc + 9223372036854775808, 10, 0) else (0, 0, 5))
    else if c = 0 ∧ i ≠ 0 then (0, 0, 5)
    else if c < 128 then (acc + c * 128 ^ i, i + 1, 0)
    else G (i + 1) (acc + (c - 128) * 128 ^ i) t

theorem G_nil (i acc : Nat) : G i acc [] = (0, 0, 4) := rfl
theorem G_nine (acc c : Nat) (t : List Nat) : G 9 acc (c :: t) = if c = 1 then (acc + 9223372036854775808, 10, 0) else (0, 0, 5) := rfl
theorem G_form {i acc c : Nat} {t : List Nat} (h : i < 9) (h0 : c = 0) (hi : i ≠ 0) : G i acc (c :: t) = (0, 0, 5) := by
  rw [G, if_neg (by omega), if_pos ⟨h0, hi⟩]
theorem G_last {i acc c : Nat} {t : List Nat} (h : i < 9) (h0 : c ≠ 0 ∨ i = 0) (hc : c < 128) : G i acc (c :: t) = (acc + c * 128 ^ i, i + 1, 0) := by
  rw [G, if_neg (by omega), if_neg (by omega), if_pos hc]
theorem G_more {i acc c : Nat} {t : List Nat} (h : i < 9) (hc : 128 ≤ c) : G i acc (c :: t) = G (i + 1) (acc + (c - 128) * 128 ^ i) t := by
  rw [G, if_neg (by omega), if_neg (by omega), if_neg (by omega)]

theorem pow_bound : ∀ i, i < 9 → 128 ^ i * 128 ≤ 9223372036854775808 := by decide
theorem pow_bound' : ∀ i, i < 10 → 128 ^ i ≤ 9223372036854775808 := by decide
theorem pow_ten : (128 : Nat) ^ 10 = 1180591620717411303424 := by decide
theorem pow_nine : (128 : Nat) ^ 9 = 9223372036854775808 := by decide

theorem place_lt {m i : Nat} (hm : 0 < m) (h : m * 128 ^ i < 18446744073709551616) : i < 10 := by
  rcases Nat.lt_or_ge i 10 with h1 | h1
  · exact h1
  · exfalso
    have h2 : 128 ^ 10 ≤ 128 ^ i := Nat.pow_le_pow_right (by omega) h1
    have h3 : 1 * 128 ^ i ≤ m * 128 ^ i := Nat.mul_le_mul_right _ hm
    rw [pow_ten] at h2
    omega

theorem step_lt {m i : Nat} (h : m * 128 ^ i < 18446744073709551616) : m / 128 * 128 ^ (i + 1) < 18446744073709551616 := by
  have h1 : m / 128 * 128 ^ (i + 1) = (m / 128 * 128) * 128 ^ i := by rw [Nat.pow_succ, Nat.mul_comm (128 ^ i), Nat.mul_assoc]
  rw [h1]
  exact Nat.lt_of_le_of_lt (Nat.mul_le_mul_right _ (Nat.div_mul_le_self m 128)) h

theorem split_at (m i acc : Nat) : acc + (m % 128 + 128 - 128) * 128 ^ i + m / 128 * 128 ^ (i + 1) = acc + m * 128 ^ i := by
  have h1 : m / 128 * 128 ^ (i + 1) = (m / 128 * 128) * 128 ^ i := by rw [Nat.pow_succ, Nat.mul_comm (128 ^ i), Nat.mul_assoc]
  rw [h1, Nat.add_assoc, ← Nat.add_mul, Nat.add_sub_cancel, Nat.mod_add_div']

/-- A number's bytes are read back, whatever stands behind them. -/
theorem G_enc : ∀ (m i acc : Nat) (rest : List Nat), m * 128 ^ i < 18446744073709551616 → (m ≠ 0 ∨ i = 0) → G i acc (enc m ++ rest) = (acc + m * 128 ^ i, i + (enc m).length, 0) := by
  intro m
  induction m using Nat.strongRecOn with
  | ind m ih =>
    intro i acc rest h h0
    have hi : i < 10 := by
      rcases h0 with h0 | h0
      · exact place_lt (Nat.pos_of_ne_zero h0) h
      · omega
    rcases Nat.lt_or_ge m 128 with hm | hm
    · rw [enc_small hm]
      simp only [List.cons_append, List.nil_append, List.length_cons, List.length_nil, Nat.zero_add]
      by_cases h9 : i = 9
      · subst h9
        rw [pow_nine] at h ⊢
        have : m = 1 := by omega
        subst this
        rw [G_nine, if_pos rfl, Nat.one_mul]
      · exact G_last (by omega) h0 hm
    · have h9 : i < 9 := by
        have hs := step_lt h
        have := place_lt (m := m / 128) (by omega) hs
        omega
      rw [enc_big hm, List.cons_append, G_more h9 (by omega), ih (m / 128) (by omega) (i + 1) _ rest (step_lt h) (by omega), split_at]
      simp; omega

theorem G_put {n : Nat} (h : n < 18446744073709551616) (rest : List Nat) : G 0 0 (enc n ++ rest) = (n, (enc n).length, 0) := by
  rw [G_enc n 0 0 rest (by simpa using h) (.inr rfl)]
  simp

/-- A proper beginning of a number's bytes is too short. -/
theorem G_short : ∀ (m i acc j : Nat), m * 128 ^ i < 18446744073709551616 → (m ≠ 0 ∨ i = 0) → j < (enc m).length → G i acc ((enc m).take j) = (0, 0, 4) := by
  intro m
  induction m using Nat.strongRecOn with
  | ind m ih =>
    intro i acc j h h0 hj
    match j, hj with
    | 0, _ => simp [G_nil]
    | j + 1, hj =>
      rcases Nat.lt_or_ge m 128 with hm | hm
      · rw [enc_small hm] at hj; simp at hj
      · have h9 : i < 9 := by
          have hs := step_lt h
          have := place_lt (m := m / 128) (by omega) hs
          omega
        rw [enc_big hm] at hj ⊢
        rw [List.take_succ_cons, G_more h9 (by omega), ih (m / 128) (by omega) (i + 1) _ j (step_lt h) (by omega) (by simpa using hj)]

theorem G_cut {n j : Nat} (h : n < 18446744073709551616) (hj : j < (enc n).length) : G 0 0 ((enc n).take j) = (0, 0, 4) :=
  G_short n 0 0 j (by simpa using h) (.inr rfl) hj

/-- The number that bytes mean, seven bits each. -/
def val : List Nat → Nat
  | [] => 0
  | c :: t => c % 128 + 128 * val t

theorem val_append (p : List Nat) (c : Nat) : val (p ++ [c]) = val p + c % 128 * 128 ^ p.length := by
  induction p with
  | nil => simp [val]
  | cons d p ih =>
    simp only [List.cons_append, val, ih, List.length_cons]
    rw [Nat.mul_add, Nat.pow_succ, ← Nat.add_assoc, Nat.mul_left_comm, Nat.mul_comm 128 (128 ^ p.length)]

theorem val_lt (p : List Nat) : val p < 128 ^ p.length := by
  induction p with
  | nil => simp [val]
  | cons d p ih =>
    simp only [val, List.length_cons, Nat.pow_succ]
    have h1 : val p + 1 ≤ 128 ^ p.length := ih
    have h2 : d % 128 < 128 := Nat.mod_lt _ (by omega)
    omega

theorem canon (p : List Nat) (c : Nat) (hp : ∀ d ∈ p, 128 ≤ d ∧ d < 256) (hc : c < 128) (h0 : c ≠ 0 ∨ p = []) : enc (val (p ++ [c])) = p ++ [c] ∧ (c ≠ 0 → 0 < val (p ++ [c])) := by
  induction p with
  | nil =>
    have : val ([] ++ [c]) = c := by simp [val]; omega
    rw [this]
    exact ⟨enc_small hc, by omega⟩
  | cons d p ih =>
    have hc0 : c ≠ 0 := h0.resolve_right (by simp)
    obtain ⟨h1, h2⟩ := ih (fun e he => hp e (List.mem_cons_of_mem _ he)) (.inl hc0)
    have hd := hp d List.mem_cons_self
    have h3 := h2 hc0
    have h4 : val (d :: p ++ [c]) = d % 128 + 128 * val (p ++ [c]) := rfl
    rw [h4]
    refine ⟨?_, fun _ => by omega⟩
    rw [enc_big (by omega), show (d % 128 + 128 * val (p ++ [c])) / 128 = val (p ++ [c]) by omega, h1, show (d % 128 + 128 * val (p ++ [c])) % 128 + 128 = d by omega]
    rfl

theorem uncanon (p : List Nat) (hne : p ≠ []) : enc (val (p ++ [0])) ≠ p ++ [0] := by
  induction p with
  | nil => exact absurd rfl hne
  | cons d p ih =>
    intro h
    have h4 : val (d :: p ++ [0]) = d % 128 + 128 * val (p ++ [0]) := rfl
    rw [h4] at h
    rcases Nat.lt_or_ge (d % 128 + 128 * val (p ++ [0])) 128 with h1 | h1
    · rw [enc_small h1] at h
      have := congrArg List.length h
      simp at this
    · rw [enc_big h1] at h
      have h2 : enc ((d % 128 + 128 * val (p ++ [0])) / 128) = p ++ [0] := (List.cons.inj h).2
      rw [show (d % 128 + 128 * val (p ++ [0])) / 128 = val (p ++ [0]) by omega] at h2
      by_cases hp : p = []
      · subst hp
        simp [val] at h1
        omega
      · exact ih hp h2

/-- The bytes of a number, one by one. -/
theorem enc_at : ∀ (n i : Nat), i < (enc n).length → (enc n).getD i 0 % 128 = n / 128 ^ i % 128 ∧ ((128 ≤ (enc n).getD i 0) ↔ i + 1 < (enc n).length) := by
  intro n
  induction n using Nat.strongRecOn with
  | ind n ih =>
    intro i hi
    rcases Nat.lt_or_ge n 128 with h | h
    · rw [enc_small h] at hi ⊢
      simp at hi
      subst hi
      simp; omega
    · rw [enc_big h] at hi ⊢
      match i, hi with
      | 0, _ =>
        have := enc_pos (n / 128)
        simp
        omega
      | i + 1, hi =>
        have := ih (n / 128) (by omega) i (by simpa using hi)
        rw [Nat.div_div_eq_div_mul, Nat.mul_comm, ← Nat.pow_succ] at this
        simpa using this

theorem enc_last : ∀ (n : Nat), 1 < (enc n).length → 0 < (enc n).getD ((enc n).length - 1) 0 := by
  intro n
  induction n using Nat.strongRecOn with
  | ind n ih =>
    intro hl
    rcases Nat.lt_or_ge n 128 with h | h
    · rw [enc_small h] at hl; simp at hl
    · rcases Nat.lt_or_ge (n / 128) 128 with h2 | h2
      · rw [enc_big h, enc_small h2]; simp; omega
      · have h3 := enc_two h2
        have := ih (n / 128) (by omega) (by omega)
        rw [enc_big h, List.length_cons, show (enc (n / 128)).length + 1 - 1 = ((enc (n / 128)).length - 1) + 1 by omega]
        simpa using this

theorem G_alive1 : G 0 0 [172, 2, 119] = (300, 2, 0) := by decide
theorem G_alive2 : G 0 0 [172] = (0, 0, 4) := by decide
theorem G_alive3 : G 0 0 [128, 0] = (0, 0, 5) := by decide

end Vint
end Go.Proofs.Ytjpmjidpdgikgaa

namespace Go.Proofs.Ytjpmjidpdgikgaa
open Go.RowKit

theorem ret_int {k : IntKind} {a b : Int} (h : a = b) : Ending.returned (.int k a) = .returned (.int k b) := by rw [h]
theorem ret_bool {a b : Bool} (h : a = b) : Ending.returned (.bool a) = .returned (.bool b) := by rw [h]

def fold (z : Int) : Int := if z < 0 then -2 * z - 1 else 2 * z
def unfold (m : Int) : Int := if m % 2 = 0 then m / 2 else -(m / 2) - 1

theorem unfold_fold (z : Int) : unfold (fold z) = z := by
  unfold unfold fold
  split <;> split <;> omega

theorem fold_unfold (m : Int) (h : 0 ≤ m) : fold (unfold m) = m := by
  unfold unfold fold
  split <;> split <;> omega

theorem fold_lo (z : Int) : 0 ≤ fold z := by unfold fold; split <;> omega
theorem fold_hi (z : Int) (h0 : -9223372036854775808 ≤ z) (h1 : z ≤ 9223372036854775807) : fold z ≤ 18446744073709551615 := by unfold fold; split <;> omega
theorem unfold_lo (m : Int) (h0 : 0 ≤ m) (h1 : m ≤ 18446744073709551615) : -9223372036854775808 ≤ unfold m := by unfold unfold; split <;> omega
theorem unfold_hi (m : Int) (h0 : 0 ≤ m) (h1 : m ≤ 18446744073709551615) : unfold m ≤ 9223372036854775807 := by unfold unfold; split <;> omega

theorem not_neg (x : Nat) (hx : x < 9223372036854775808) : bits .xor .i64 (-1) (-(x : Int) - 1) = (x : Int) := by
  show IntKind.i64.wrap ((BitVec.ofInt 64 (-1) ^^^ BitVec.ofInt 64 (-(x : Int) - 1)).toNat : Int) = _
  have h1 : BitVec.ofInt 64 (-1) = BitVec.allOnes 64 := by decide
  have h2 : (BitVec.ofInt 64 (-(x : Int) - 1)).toNat = 18446744073709551615 - x := by
    rw [BitVec.toNat_ofInt]
    omega
  rw [h1, BitVec.allOnes_xor, BitVec.toNat_not, h2, IntKind.wrap_i64]
  omega

theorem not_pos (x : Nat) (hx : x < 9223372036854775808) : bits .xor .i64 (-1) (x : Int) = -(x : Int) - 1 := by
  show IntKind.i64.wrap ((BitVec.ofInt 64 (-1) ^^^ BitVec.ofInt 64 (x : Int)).toNat : Int) = _
  have h1 : BitVec.ofInt 64 (-1) = BitVec.allOnes 64 := by decide
  rw [h1, BitVec.allOnes_xor, BitVec.toNat_not, ofInt_u64 x (by omega), IntKind.wrap_i64]
  omega

theorem or_one (x : Nat) (hx : x < 9223372036854775808) : bits .or .u64 ((x : Int) * 2) 1 = (x : Int) * 2 + 1 := by
  have h := u64_or_nat (x * 2) 1 (by omega) (by omega)
  rw [nat_join 1 (x * 2) 1 (by omega) (by omega)] at h
  have e : (((x * 2 : Nat) : Int)) = (x : Int) * 2 := by omega
  rw [e] at h
  have e2 : ((x * 2 + 1 : Nat) : Int) = (x : Int) * 2 + 1 := by omega
  rw [e2] at h
  exact h

/-- May the byte c stand at place i. -/
def fitsB (i c : Nat) : Bool := if i = 9 then decide (c = 1) else decide (c ≠ 0 ∨ i = 0)


end Go.Proofs.Ytjpmjidpdgikgaa
