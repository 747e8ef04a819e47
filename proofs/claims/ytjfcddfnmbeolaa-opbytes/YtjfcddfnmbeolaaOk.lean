/- Walks of rightKind, makesEntry and Count, and of kind, Lays and Count, the document's. -/
import Derived.Test.YtjfcddfnmbeolaaOb
namespace Go.Proofs.Ytjfcddfnmbeolaa
open Go.RowKit

set_option maxHeartbeats 1000000 in
theorem kind_any (o : O) (w : World) : Calls Try.prog 31 #[.agg o.arr] w (Says (.bool o.kindB) w) := by
  have hb1 := fun w => box29 o w
  have HT := Lib.hid (ow_new w o)
  have c2 := oc2 (ow_new w o).one
  have c4 := oc4 (ow_new w o).one
  have c5 := oc5 (ow_new w o).one
  have hk := o.hk
  have hi := o.hi
  have hq := o.hq
  by_cases h1 : o.k = 1
  · have HE : Hid (o.kindB = decide (1 ≤ o.q)) := Lib.hid (by unfold O.kindB; rw [Bool.eq_iff_iff]; simp <;> omega)
    rw [h1] at c2
    go_enter Try.func31, Try.ntmps31
    go_wp2_with fail
    go_ret
    exact ⟨ret_bool (by rw [HE.out]; first | rfl | (rw [Bool.eq_iff_iff]; simp <;> omega)), HT.out.old⟩
  by_cases h2 : o.k = 2
  · have HE : Hid (o.kindB = true) := Lib.hid (by unfold O.kindB; simp <;> omega)
    rw [h2] at c2
    go_enter Try.func31, Try.ntmps31
    go_wp2_with fail
    go_ret
    exact ⟨ret_bool HE.out.symm, HT.out.old⟩
  by_cases h3 : o.k = 3
  · have HE : Hid (o.kindB = decide (o.q = 0)) := Lib.hid (by unfold O.kindB; rw [Bool.eq_iff_iff]; simp <;> omega)
    rw [h3] at c2
    go_enter Try.func31, Try.ntmps31
    go_wp2_with fail
    go_ret
    exact ⟨ret_bool (by rw [HE.out]; first | rfl | (rw [Bool.eq_iff_iff]; simp <;> omega)), HT.out.old⟩
  by_cases h4 : o.k = 4
  · by_cases hi0 : o.i = 0
    · have HE : Hid (o.kindB = decide (o.q = 0)) := Lib.hid (by unfold O.kindB; rw [Bool.eq_iff_iff]; simp <;> omega)
      rw [h4] at c2
      rw [hi0] at c4
      go_enter Try.func31, Try.ntmps31
      go_wp2_with fail
      go_ret
      exact ⟨ret_bool (by rw [HE.out]; first | rfl | (rw [Bool.eq_iff_iff]; simp <;> omega)), HT.out.old⟩
    · have HE : Hid (o.kindB = false) := Lib.hid (by unfold O.kindB; simp <;> omega)
      have gi : ((o.i : Int) == 0) = false := by simp <;> omega
      rw [h4] at c2
      go_enter Try.func31, Try.ntmps31
      go_wp2_with fail
      go_ret
      exact ⟨ret_bool HE.out.symm, HT.out.old⟩
  by_cases h5 : o.k = 5
  · by_cases hi0 : o.i = 0
    · have HE : Hid (o.kindB = decide (o.q = 0)) := Lib.hid (by unfold O.kindB; rw [Bool.eq_iff_iff]; simp <;> omega)
      rw [h5] at c2
      rw [hi0] at c4
      go_enter Try.func31, Try.ntmps31
      go_wp2_with fail
      go_ret
      exact ⟨ret_bool (by rw [HE.out]; first | rfl | (rw [Bool.eq_iff_iff]; simp <;> omega)), HT.out.old⟩
    · have HE : Hid (o.kindB = false) := Lib.hid (by unfold O.kindB; simp <;> omega)
      have gi : ((o.i : Int) == 0) = false := by simp <;> omega
      rw [h5] at c2
      go_enter Try.func31, Try.ntmps31
      go_wp2_with fail
      go_ret
      exact ⟨ret_bool HE.out.symm, HT.out.old⟩
  have HE : Hid (o.kindB = false) := Lib.hid (by unfold O.kindB; simp <;> omega)
  have gk1 : ((o.k : Int) == 1) = false := by simp <;> omega
  have gk2 : ((o.k : Int) == 2) = false := by simp <;> omega
  have gk3 : ((o.k : Int) == 3) = false := by simp <;> omega
  have gk4 : ((o.k : Int) == 4) = false := by simp <;> omega
  have gk5 : ((o.k : Int) == 5) = false := by simp <;> omega
  go_enter Try.func31, Try.ntmps31
  go_wp2_with fail
  go_ret
  exact ⟨ret_bool HE.out.symm, HT.out.old⟩

set_option maxHeartbeats 1000000 in
theorem rkind_any (o : O) (w : World) : Calls Try.prog 34 #[.agg o.arr] w (Says (.bool o.kindB) w) := by
  have hb1 := fun w => box29 o w
  have HT := Lib.hid (ow_new w o)
  have c2 := oc2 (ow_new w o).one
  have c4 := oc4 (ow_new w o).one
  have c5 := oc5 (ow_new w o).one
  have hk := o.hk
  have hi := o.hi
  have hq := o.hq
  by_cases h1 : o.k = 1
  · have HE : Hid (o.kindB = decide (1 ≤ o.q)) := Lib.hid (by unfold O.kindB; rw [Bool.eq_iff_iff]; simp <;> omega)
    rw [h1] at c2
    go_enter Try.func34, Try.ntmps34
    go_wp2_with fail
    go_ret
    exact ⟨ret_bool (by rw [HE.out]; first | rfl | (rw [Bool.eq_iff_iff]; simp <;> omega)), HT.out.old⟩
  by_cases h2 : o.k = 2
  · have HE : Hid (o.kindB = true) := Lib.hid (by unfold O.kindB; simp <;> omega)
    rw [h2] at c2
    go_enter Try.func34, Try.ntmps34
    go_wp2_with fail
    go_ret
    exact ⟨ret_bool HE.out.symm, HT.out.old⟩
  by_cases h3 : o.k = 3
  · have HE : Hid (o.kindB = decide (o.q = 0)) := Lib.hid (by unfold O.kindB; rw [Bool.eq_iff_iff]; simp <;> omega)
    rw [h3] at c2
    go_enter Try.func34, Try.ntmps34
    go_wp2_with fail
    go_ret
    exact ⟨ret_bool (by rw [HE.out]; first | rfl | (rw [Bool.eq_iff_iff]; simp <;> omega)), HT.out.old⟩
  by_cases h4 : o.k = 4
  · by_cases hi0 : o.i = 0
    · have HE : Hid (o.kindB = decide (o.q = 0)) := Lib.hid (by unfold O.kindB; rw [Bool.eq_iff_iff]; simp <;> omega)
      rw [h4] at c2
      rw [hi0] at c4
      go_enter Try.func34, Try.ntmps34
      go_wp2_with fail
      go_ret
      exact ⟨ret_bool (by rw [HE.out]; first | rfl | (rw [Bool.eq_iff_iff]; simp <;> omega)), HT.out.old⟩
    · have HE : Hid (o.kindB = false) := Lib.hid (by unfold O.kindB; simp <;> omega)
      have gi : ((o.i : Int) == 0) = false := by simp <;> omega
      rw [h4] at c2
      go_enter Try.func34, Try.ntmps34
      go_wp2_with fail
      go_ret
      exact ⟨ret_bool HE.out.symm, HT.out.old⟩
  by_cases h5 : o.k = 5
  · by_cases hi0 : o.i = 0
    · have HE : Hid (o.kindB = decide (o.q = 0)) := Lib.hid (by unfold O.kindB; rw [Bool.eq_iff_iff]; simp <;> omega)
      rw [h5] at c2
      rw [hi0] at c4
      go_enter Try.func34, Try.ntmps34
      go_wp2_with fail
      go_ret
      exact ⟨ret_bool (by rw [HE.out]; first | rfl | (rw [Bool.eq_iff_iff]; simp <;> omega)), HT.out.old⟩
    · have HE : Hid (o.kindB = false) := Lib.hid (by unfold O.kindB; simp <;> omega)
      have gi : ((o.i : Int) == 0) = false := by simp <;> omega
      rw [h5] at c2
      go_enter Try.func34, Try.ntmps34
      go_wp2_with fail
      go_ret
      exact ⟨ret_bool HE.out.symm, HT.out.old⟩
  have HE : Hid (o.kindB = false) := Lib.hid (by unfold O.kindB; simp <;> omega)
  have gk1 : ((o.k : Int) == 1) = false := by simp <;> omega
  have gk2 : ((o.k : Int) == 2) = false := by simp <;> omega
  have gk3 : ((o.k : Int) == 3) = false := by simp <;> omega
  have gk4 : ((o.k : Int) == 4) = false := by simp <;> omega
  have gk5 : ((o.k : Int) == 5) = false := by simp <;> omega
  go_enter Try.func34, Try.ntmps34
  go_wp2_with fail
  go_ret
  exact ⟨ret_bool HE.out.symm, HT.out.old⟩

set_option maxHeartbeats 1000000 in
theorem makes_any (o : O) (w : World) : Calls Try.prog 36 #[.agg o.arr] w (Says (.bool o.laysB) w) := by
  have hb1 := fun w => box29 o w
  have HT := Lib.hid (ow_new w o)
  have c2 := oc2 (ow_new w o).one
  have hk := o.hk
  by_cases h1 : o.k = 1
  · have HE : Hid (o.laysB = true) := Lib.hid (by unfold O.laysB; simp <;> omega)
    rw [h1] at c2
    go_enter Try.func36, Try.ntmps36
    go_wp2_with fail
    go_ret
    exact ⟨ret_bool HE.out.symm, HT.out.old⟩
  by_cases h2 : o.k = 2
  · have HE : Hid (o.laysB = true) := Lib.hid (by unfold O.laysB; simp <;> omega)
    rw [h2] at c2
    go_enter Try.func36, Try.ntmps36
    go_wp2_with fail
    go_ret
    exact ⟨ret_bool HE.out.symm, HT.out.old⟩
  by_cases h4 : o.k = 4
  · have HE : Hid (o.laysB = true) := Lib.hid (by unfold O.laysB; simp <;> omega)
    rw [h4] at c2
    go_enter Try.func36, Try.ntmps36
    go_wp2_with fail
    go_ret
    exact ⟨ret_bool HE.out.symm, HT.out.old⟩
  have HE : Hid (o.laysB = false) := Lib.hid (by unfold O.laysB; simp <;> omega)
  have gk1 : ((o.k : Int) == 1) = false := by simp <;> omega
  have gk2 : ((o.k : Int) == 2) = false := by simp <;> omega
  have gk4 : ((o.k : Int) == 4) = false := by simp <;> omega
  go_enter Try.func36, Try.ntmps36
  go_wp2_with fail
  go_ret
  exact ⟨ret_bool HE.out.symm, HT.out.old⟩

set_option maxHeartbeats 1000000 in
theorem lays_any (o : O) (w : World) : Calls Try.prog 38 #[.agg o.arr] w (Says (.bool o.laysB) w) := by
  have hb1 := fun w => box29 o w
  have HT := Lib.hid (ow_new w o)
  have c2 := oc2 (ow_new w o).one
  have hk := o.hk
  by_cases h1 : o.k = 1
  · have HE : Hid (o.laysB = true) := Lib.hid (by unfold O.laysB; simp <;> omega)
    rw [h1] at c2
    go_enter Try.func38, Try.ntmps38
    go_wp2_with fail
    go_ret
    exact ⟨ret_bool HE.out.symm, HT.out.old⟩
  by_cases h2 : o.k = 2
  · have HE : Hid (o.laysB = true) := Lib.hid (by unfold O.laysB; simp <;> omega)
    rw [h2] at c2
    go_enter Try.func38, Try.ntmps38
    go_wp2_with fail
    go_ret
    exact ⟨ret_bool HE.out.symm, HT.out.old⟩
  by_cases h4 : o.k = 4
  · have HE : Hid (o.laysB = true) := Lib.hid (by unfold O.laysB; simp <;> omega)
    rw [h4] at c2
    go_enter Try.func38, Try.ntmps38
    go_wp2_with fail
    go_ret
    exact ⟨ret_bool HE.out.symm, HT.out.old⟩
  have HE : Hid (o.laysB = false) := Lib.hid (by unfold O.laysB; simp <;> omega)
  have gk1 : ((o.k : Int) == 1) = false := by simp <;> omega
  have gk2 : ((o.k : Int) == 2) = false := by simp <;> omega
  have gk4 : ((o.k : Int) == 4) = false := by simp <;> omega
  go_enter Try.func38, Try.ntmps38
  go_wp2_with fail
  go_ret
  exact ⟨ret_bool HE.out.symm, HT.out.old⟩

set_option maxHeartbeats 1000000 in
theorem count_any (o : O) (w : World) : Calls Try.prog 14 #[.agg o.arr] w (Says (.int .u64 (o.count : Int)) w) := by
  have hb1 := fun w => box29 o w
  have HT := Lib.hid (ow_new w o)
  have HS := Lib.hid (fun w => sum_any o.v w)
  have hl := V.sum_lt o.v
  have HC : Hid (o.count = V.sum o.v + 1) := Lib.hid rfl
  generalize V.sum o.v = x at HS hl HC
  go_enter Try.func14, Try.ntmps14
  go_wp2_with (refine wpList_run rfl (exec_ctx (p := o) rfl rfl HT.out.one) ?_)
  clear hb1
  generalize w.alloc (.cells o.arr 29) = W at HT
  refine (HS.out _).mono ?_
  rintro e w1 ⟨rfl, hb⟩
  have HT1 := Lib.hid (HT.out.below hb)
  clear hb
  go_wp2_with fail
  go_ret
  exact ⟨ret_int (by rw [HC.out]; omega), HT1.out.old⟩

set_option maxHeartbeats 1000000 in
theorem rcount_any (o : O) (w : World) : Calls Try.prog 15 #[.agg o.arr] w (Says (.int .u64 (o.count : Int)) w) := by
  have hb1 := fun w => box29 o w
  have HT := Lib.hid (ow_new w o)
  have HS := Lib.hid (fun w => rsum_any o.v w)
  have hl := V.sum_lt o.v
  have HC : Hid (o.count = V.sum o.v + 1) := Lib.hid rfl
  generalize V.sum o.v = x at HS hl HC
  go_enter Try.func15, Try.ntmps15
  go_wp2_with (refine wpList_run rfl (exec_ctx (p := o) rfl rfl HT.out.one) ?_)
  clear hb1
  generalize w.alloc (.cells o.arr 29) = W at HT
  refine (HS.out _).mono ?_
  rintro e w1 ⟨rfl, hb⟩
  have HT1 := Lib.hid (HT.out.below hb)
  clear hb
  go_wp2_with fail
  go_ret
  exact ⟨ret_int (by rw [HC.out]; omega), HT1.out.old⟩

end Go.Proofs.Ytjfcddfnmbeolaa
