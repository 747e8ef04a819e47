/- Walks of the functions of layer 2 that make no memory: Fold, Unfold and fits of the program, Fold and Unfold of the document's answer. -/
import Derived.Test.YtjfcddfnmbeolaaRows
import Derived.Test.YtjfcddfnmbeolaaMath
import Derived.WalkKit
import Derived.WalkSpells
import Derived.WalkLawsBesides
import Derived.Lib.Hide
namespace Go.Proofs.Ytjfcddfnmbeolaa
open Go.RowKit

theorem ret_int {k : IntKind} {a b : Int} (h : a = b) : Ending.returned (.int k a) = .returned (.int k b) := by rw [h]
theorem ret_bool {a b : Bool} (h : a = b) : Ending.returned (.bool a) = .returned (.bool b) := by rw [h]

def fold (z : Int) : Int := if z < 0 then -2 * z - 1 else 2 * z
def unfold (m : Int) : Int := if m % 2 = 0 then m / 2 else -(m / 2) - 1

theorem unfold_fold (z : Int) : unfold (fold z) = z := by
  unfold unfold fold
  split <;> split <;> omega

theorem fold_unfold (m : Int) (h : 0 ≤ m) : fold (unfold m) = m := by
  unfold unfold fold
  split <;> split <;> omega

theorem fold_lo (z : Int) : 0 ≤ fold z := by unfold fold; split <;> omega
theorem fold_hi (z : Int) (h0 : -9223372036854775808 ≤ z) (h1 : z ≤ 9223372036854775807) : fold z ≤ 18446744073709551615 := by unfold fold; split <;> omega
theorem unfold_lo (m : Int) (h0 : 0 ≤ m) (h1 : m ≤ 18446744073709551615) : -9223372036854775808 ≤ unfold m := by unfold unfold; split <;> omega
theorem unfold_hi (m : Int) (h0 : 0 ≤ m) (h1 : m ≤ 18446744073709551615) : unfold m ≤ 9223372036854775807 := by unfold unfold; split <;> omega

theorem not_neg (x : Nat) (hx : x < 9223372036854775808) : bits .xor .i64 (-1) (-(x : Int) - 1) = (x : Int) := by
  show IntKind.i64.wrap ((BitVec.ofInt 64 (-1) ^^^ BitVec.ofInt 64 (-(x : Int) - 1)).toNat : Int) = _
  have h1 : BitVec.ofInt 64 (-1) = BitVec.allOnes 64 := by decide
  have h2 : (BitVec.ofInt 64 (-(x : Int) - 1)).toNat = 18446744073709551615 - x := by
    rw [BitVec.toNat_ofInt]
    omega
  rw [h1, BitVec.allOnes_xor, BitVec.toNat_not, h2, IntKind.wrap_i64]
  omega

theorem not_pos (x : Nat) (hx : x < 9223372036854775808) : bits .xor .i64 (-1) (x : Int) = -(x : Int) - 1 := by
  show IntKind.i64.wrap ((BitVec.ofInt 64 (-1) ^^^ BitVec.ofInt 64 (x : Int)).toNat : Int) = _
  have h1 : BitVec.ofInt 64 (-1) = BitVec.allOnes 64 := by decide
  rw [h1, BitVec.allOnes_xor, BitVec.toNat_not, ofInt_u64 x (by omega), IntKind.wrap_i64]
  omega

theorem or_one (x : Nat) (hx : x < 9223372036854775808) : bits .or .u64 ((x : Int) * 2) 1 = (x : Int) * 2 + 1 := by
  have h := u64_or_nat (x * 2) 1 (by omega) (by omega)
  rw [nat_join 1 (x * 2) 1 (by omega) (by omega)] at h
  have e : (((x * 2 : Nat) : Int)) = (x : Int) * 2 := by omega
  rw [e] at h
  have e2 : ((x * 2 + 1 : Nat) : Int) = (x : Int) * 2 + 1 := by omega
  rw [e2] at h
  exact h

/-- May the byte c stand at place i. -/
def fitsB (i c : Nat) : Bool := if i = 9 then decide (c = 1) else decide (c ≠ 0 ∨ i = 0)

set_option maxHeartbeats 400000 in
theorem fits_any (i c : Nat) (w : World) (_h : i < 10) (_hc : c < 256) :
    Calls Try.prog 72 #[.int .i64 (i : Int), .int .u8 (c : Int)] w fun e w' => e = .returned (.bool (fitsB i c)) ∧ w = w' := by
  by_cases h9 : i = 9
  · have hq : ((i : Int) == 9) = true := by simp; omega
    have HF : Hid (fitsB i c = ((c : Int) == 1)) := Lib.hid (by unfold fitsB; rw [if_pos h9, Bool.eq_iff_iff]; simp; omega)
    clear h9
    go_enter Try.func72, Try.ntmps72
    go_wp2_with fail
    go_ret
    exact ⟨ret_bool HF.out.symm, rfl⟩
  · have hq : ((i : Int) == 9) = false := by simp; omega
    by_cases h0 : c = 0
    · have hn : ((c : Int) != 0) = false := by simp; omega
      have HF : Hid (fitsB i c = ((i : Int) == 0)) := Lib.hid (by unfold fitsB; rw [if_neg h9, Bool.eq_iff_iff]; simp; omega)
      clear h9 h0
      go_enter Try.func72, Try.ntmps72
      go_wp2_with fail
      go_ret
      exact ⟨ret_bool HF.out.symm, rfl⟩
    · have hn : ((c : Int) != 0) = true := by simp; omega
      have HF : Hid (fitsB i c = true) := Lib.hid (by unfold fitsB; rw [if_neg h9]; simp; omega)
      clear h9 h0
      go_enter Try.func72, Try.ntmps72
      go_wp2_with fail
      go_ret
      exact ⟨ret_bool HF.out.symm, rfl⟩

end Go.Proofs.Ytjfcddfnmbeolaa
