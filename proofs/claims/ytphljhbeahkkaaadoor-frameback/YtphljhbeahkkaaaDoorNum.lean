/- Walks of the functions of layer 2 that make no memory: Fold, Unfold, Size and fits of the program, Fold and Unfold of the document's answer. -/
import Derived.Test.YtphljhbeahkkaaaDoorRows
import Derived.Test.YtphljhbeahkkaaaDoorMath
import Derived.WalkKit
import Derived.WalkSpells
import Derived.WalkLawsBesides
import Derived.Lib.Hide
namespace Go.Proofs.YtphljhbeahkkaaaDoor
open Go.RowKit

theorem ret_int {k : IntKind} {a b : Int} (h : a = b) : Ending.returned (.int k a) = .returned (.int k b) := by rw [h]
theorem ret_bool {a b : Bool} (h : a = b) : Ending.returned (.bool a) = .returned (.bool b) := by rw [h]

/-- May the byte c stand at place i. -/
def fitsB (i c : Nat) : Bool := if i = 9 then decide (c = 1) else decide (c ≠ 0 ∨ i = 0)

set_option maxHeartbeats 400000 in
theorem fits_any (i c : Nat) (w : World) (_h : i < 10) (_hc : c < 256) :
    Calls Tryd.prog 28 #[.int .i64 (i : Int), .int .u8 (c : Int)] w fun e w' => e = .returned (.bool (fitsB i c)) ∧ w = w' := by
  by_cases h9 : i = 9
  · have hq : ((i : Int) == 9) = true := by simp; omega
    have HF : Hid (fitsB i c = ((c : Int) == 1)) := Lib.hid (by unfold fitsB; rw [if_pos h9, Bool.eq_iff_iff]; simp; omega)
    clear h9
    go_enter Tryd.func28, Tryd.ntmps28
    go_wp2_with fail
    go_ret
    exact ⟨ret_bool HF.out.symm, rfl⟩
  · have hq : ((i : Int) == 9) = false := by simp; omega
    by_cases h0 : c = 0
    · have hn : ((c : Int) != 0) = false := by simp; omega
      have HF : Hid (fitsB i c = ((i : Int) == 0)) := Lib.hid (by unfold fitsB; rw [if_neg h9, Bool.eq_iff_iff]; simp; omega)
      clear h9 h0
      go_enter Tryd.func28, Tryd.ntmps28
      go_wp2_with fail
      go_ret
      exact ⟨ret_bool HF.out.symm, rfl⟩
    · have hn : ((c : Int) != 0) = true := by simp; omega
      have HF : Hid (fitsB i c = true) := Lib.hid (by unfold fitsB; rw [if_neg h9]; simp; omega)
      clear h9 h0
      go_enter Tryd.func28, Tryd.ntmps28
      go_wp2_with fail
      go_ret
      exact ⟨ret_bool HF.out.symm, rfl⟩

end Go.Proofs.YtphljhbeahkkaaaDoor
