/- Walks of rightKind, makesEntry and Count, and of kind, Lays and Count, the document's. -/
import Derived.Test.YtmibfbbkjejkmaaOb
namespace Go.Proofs.Ytmibfbbkjejkmaa
open Go.RowKit

set_option maxHeartbeats 1000000 in
theorem makes_any (o : O) (w : World) : Calls Try.prog 61 #[.agg o.arr] w (Says (.bool o.laysB) w) := by
  have hb1 := fun w => box40 o w
  have HT := Lib.hid (ow_new w o)
  have c2 := oc2 (ow_new w o).one
  have hk := o.hk
  by_cases h1 : o.k = 1
  · have HE : Hid (o.laysB = true) := Lib.hid (by unfold O.laysB; simp <;> omega)
    rw [h1] at c2
    go_enter Try.func61, Try.ntmps61
    go_wp2_with fail
    go_ret
    exact ⟨ret_bool HE.out.symm, HT.out.old⟩
  by_cases h2 : o.k = 2
  · have HE : Hid (o.laysB = true) := Lib.hid (by unfold O.laysB; simp <;> omega)
    rw [h2] at c2
    go_enter Try.func61, Try.ntmps61
    go_wp2_with fail
    go_ret
    exact ⟨ret_bool HE.out.symm, HT.out.old⟩
  by_cases h4 : o.k = 4
  · have HE : Hid (o.laysB = true) := Lib.hid (by unfold O.laysB; simp <;> omega)
    rw [h4] at c2
    go_enter Try.func61, Try.ntmps61
    go_wp2_with fail
    go_ret
    exact ⟨ret_bool HE.out.symm, HT.out.old⟩
  have HE : Hid (o.laysB = false) := Lib.hid (by unfold O.laysB; simp <;> omega)
  have gk1 : ((o.k : Int) == 1) = false := by simp <;> omega
  have gk2 : ((o.k : Int) == 2) = false := by simp <;> omega
  have gk4 : ((o.k : Int) == 4) = false := by simp <;> omega
  go_enter Try.func61, Try.ntmps61
  go_wp2_with fail
  go_ret
  exact ⟨ret_bool HE.out.symm, HT.out.old⟩

set_option maxHeartbeats 1000000 in
theorem count_any (o : O) (w : World) : Calls Try.prog 59 #[.agg o.arr] w (Says (.int .u64 (o.count : Int)) w) := by
  have hb1 := fun w => box40 o w
  have HT := Lib.hid (ow_new w o)
  have HS := Lib.hid (fun w => sum_any o.v w)
  have hl := V.sum_lt o.v
  have HC : Hid (o.count = V.sum o.v + 1) := Lib.hid rfl
  generalize V.sum o.v = x at HS hl HC
  go_enter Try.func59, Try.ntmps59
  go_wp2_with (refine wpList_run rfl (exec_ctx (p := o) rfl rfl HT.out.one) ?_)
  clear hb1
  generalize w.alloc (.cells o.arr 40) = W at HT
  refine (HS.out _).mono ?_
  rintro e w1 ⟨rfl, hb⟩
  have HT1 := Lib.hid (HT.out.below hb)
  clear hb
  go_wp2_with fail
  go_ret
  exact ⟨ret_int (by rw [HC.out]; omega), HT1.out.old⟩

end Go.Proofs.Ytmibfbbkjejkmaa
