/- Walks of rightKind, makesEntry and Count, and of kind, Lays and Count, the document's. Walk of Right, the program's. Walks of Right, the document's, and of Less, Ends and Ready, the program's and the document's. -/
import Derived.Test.YtfnaccmgmocolaaDoorOb
namespace Go.Proofs.YtfnaccmgmocolaaDoor
open Go.RowKit

set_option maxHeartbeats 1000000 in
theorem kind_any (o : O) (w : World) : Calls Tryd.prog 69 #[.agg o.arr] w (Says (.bool o.kindB) w) := by
  have hb1 := fun w => box29 o w
  have HT := Lib.hid (ow_new w o)
  have c2 := oc2 (ow_new w o).one
  have c4 := oc4 (ow_new w o).one
  have c5 := oc5 (ow_new w o).one
  have hk := o.hk
  have hi := o.hi
  have hq := o.hq
  by_cases h1 : o.k = 1
  · have HE : Hid (o.kindB = decide (1 ≤ o.q)) := Lib.hid (by unfold O.kindB; rw [Bool.eq_iff_iff]; simp <;> omega)
    rw [h1] at c2
    go_enter Tryd.func69, Tryd.ntmps69
    go_wp2_with fail
    go_ret
    exact ⟨ret_bool (by rw [HE.out]; first | rfl | (rw [Bool.eq_iff_iff]; simp <;> omega)), HT.out.old⟩
  by_cases h2 : o.k = 2
  · have HE : Hid (o.kindB = true) := Lib.hid (by unfold O.kindB; simp <;> omega)
    rw [h2] at c2
    go_enter Tryd.func69, Tryd.ntmps69
    go_wp2_with fail
    go_ret
    exact ⟨ret_bool HE.out.symm, HT.out.old⟩
  by_cases h3 : o.k = 3
  · have HE : Hid (o.kindB = decide (o.q = 0)) := Lib.hid (by unfold O.kindB; rw [Bool.eq_iff_iff]; simp <;> omega)
    rw [h3] at c2
    go_enter Tryd.func69, Tryd.ntmps69
    go_wp2_with fail
    go_ret
    exact ⟨ret_bool (by rw [HE.out]; first | rfl | (rw [Bool.eq_iff_iff]; simp <;> omega)), HT.out.old⟩
  by_cases h4 : o.k = 4
  · by_cases hi0 : o.i = 0
    · have HE : Hid (o.kindB = decide (o.q = 0)) := Lib.hid (by unfold O.kindB; rw [Bool.eq_iff_iff]; simp <;> omega)
      rw [h4] at c2
      rw [hi0] at c4
      go_enter Tryd.func69, Tryd.ntmps69
      go_wp2_with fail
      go_ret
      exact ⟨ret_bool (by rw [HE.out]; first | rfl | (rw [Bool.eq_iff_iff]; simp <;> omega)), HT.out.old⟩
    · have HE : Hid (o.kindB = false) := Lib.hid (by unfold O.kindB; simp <;> omega)
      have gi : ((o.i : Int) == 0) = false := by simp <;> omega
      rw [h4] at c2
      go_enter Tryd.func69, Tryd.ntmps69
      go_wp2_with fail
      go_ret
      exact ⟨ret_bool HE.out.symm, HT.out.old⟩
  by_cases h5 : o.k = 5
  · by_cases hi0 : o.i = 0
    · have HE : Hid (o.kindB = decide (o.q = 0)) := Lib.hid (by unfold O.kindB; rw [Bool.eq_iff_iff]; simp <;> omega)
      rw [h5] at c2
      rw [hi0] at c4
      go_enter Tryd.func69, Tryd.ntmps69
      go_wp2_with fail
      go_ret
      exact ⟨ret_bool (by rw [HE.out]; first | rfl | (rw [Bool.eq_iff_iff]; simp <;> omega)), HT.out.old⟩
    · have HE : Hid (o.kindB = false) := Lib.hid (by unfold O.kindB; simp <;> omega)
      have gi : ((o.i : Int) == 0) = false := by simp <;> omega
      rw [h5] at c2
      go_enter Tryd.func69, Tryd.ntmps69
      go_wp2_with fail
      go_ret
      exact ⟨ret_bool HE.out.symm, HT.out.old⟩
  have HE : Hid (o.kindB = false) := Lib.hid (by unfold O.kindB; simp <;> omega)
  have gk1 : ((o.k : Int) == 1) = false := by simp <;> omega
  have gk2 : ((o.k : Int) == 2) = false := by simp <;> omega
  have gk3 : ((o.k : Int) == 3) = false := by simp <;> omega
  have gk4 : ((o.k : Int) == 4) = false := by simp <;> omega
  have gk5 : ((o.k : Int) == 5) = false := by simp <;> omega
  go_enter Tryd.func69, Tryd.ntmps69
  go_wp2_with fail
  go_ret
  exact ⟨ret_bool HE.out.symm, HT.out.old⟩

set_option maxHeartbeats 1000000 in
theorem rkind_any (o : O) (w : World) : Calls Tryd.prog 65 #[.agg o.arr] w (Says (.bool o.kindB) w) := by
  have hb1 := fun w => box29 o w
  have HT := Lib.hid (ow_new w o)
  have c2 := oc2 (ow_new w o).one
  have c4 := oc4 (ow_new w o).one
  have c5 := oc5 (ow_new w o).one
  have hk := o.hk
  have hi := o.hi
  have hq := o.hq
  by_cases h1 : o.k = 1
  · have HE : Hid (o.kindB = decide (1 ≤ o.q)) := Lib.hid (by unfold O.kindB; rw [Bool.eq_iff_iff]; simp <;> omega)
    rw [h1] at c2
    go_enter Tryd.func65, Tryd.ntmps65
    go_wp2_with fail
    go_ret
    exact ⟨ret_bool (by rw [HE.out]; first | rfl | (rw [Bool.eq_iff_iff]; simp <;> omega)), HT.out.old⟩
  by_cases h2 : o.k = 2
  · have HE : Hid (o.kindB = true) := Lib.hid (by unfold O.kindB; simp <;> omega)
    rw [h2] at c2
    go_enter Tryd.func65, Tryd.ntmps65
    go_wp2_with fail
    go_ret
    exact ⟨ret_bool HE.out.symm, HT.out.old⟩
  by_cases h3 : o.k = 3
  · have HE : Hid (o.kindB = decide (o.q = 0)) := Lib.hid (by unfold O.kindB; rw [Bool.eq_iff_iff]; simp <;> omega)
    rw [h3] at c2
    go_enter Tryd.func65, Tryd.ntmps65
    go_wp2_with fail
    go_ret
    exact ⟨ret_bool (by rw [HE.out]; first | rfl | (rw [Bool.eq_iff_iff]; simp <;> omega)), HT.out.old⟩
  by_cases h4 : o.k = 4
  · by_cases hi0 : o.i = 0
    · have HE : Hid (o.kindB = decide (o.q = 0)) := Lib.hid (by unfold O.kindB; rw [Bool.eq_iff_iff]; simp <;> omega)
      rw [h4] at c2
      rw [hi0] at c4
      go_enter Tryd.func65, Tryd.ntmps65
      go_wp2_with fail
      go_ret
      exact ⟨ret_bool (by rw [HE.out]; first | rfl | (rw [Bool.eq_iff_iff]; simp <;> omega)), HT.out.old⟩
    · have HE : Hid (o.kindB = false) := Lib.hid (by unfold O.kindB; simp <;> omega)
      have gi : ((o.i : Int) == 0) = false := by simp <;> omega
      rw [h4] at c2
      go_enter Tryd.func65, Tryd.ntmps65
      go_wp2_with fail
      go_ret
      exact ⟨ret_bool HE.out.symm, HT.out.old⟩
  by_cases h5 : o.k = 5
  · by_cases hi0 : o.i = 0
    · have HE : Hid (o.kindB = decide (o.q = 0)) := Lib.hid (by unfold O.kindB; rw [Bool.eq_iff_iff]; simp <;> omega)
      rw [h5] at c2
      rw [hi0] at c4
      go_enter Tryd.func65, Tryd.ntmps65
      go_wp2_with fail
      go_ret
      exact ⟨ret_bool (by rw [HE.out]; first | rfl | (rw [Bool.eq_iff_iff]; simp <;> omega)), HT.out.old⟩
    · have HE : Hid (o.kindB = false) := Lib.hid (by unfold O.kindB; simp <;> omega)
      have gi : ((o.i : Int) == 0) = false := by simp <;> omega
      rw [h5] at c2
      go_enter Tryd.func65, Tryd.ntmps65
      go_wp2_with fail
      go_ret
      exact ⟨ret_bool HE.out.symm, HT.out.old⟩
  have HE : Hid (o.kindB = false) := Lib.hid (by unfold O.kindB; simp <;> omega)
  have gk1 : ((o.k : Int) == 1) = false := by simp <;> omega
  have gk2 : ((o.k : Int) == 2) = false := by simp <;> omega
  have gk3 : ((o.k : Int) == 3) = false := by simp <;> omega
  have gk4 : ((o.k : Int) == 4) = false := by simp <;> omega
  have gk5 : ((o.k : Int) == 5) = false := by simp <;> omega
  go_enter Tryd.func65, Tryd.ntmps65
  go_wp2_with fail
  go_ret
  exact ⟨ret_bool HE.out.symm, HT.out.old⟩


end Go.Proofs.YtfnaccmgmocolaaDoor

namespace Go.Proofs.YtfnaccmgmocolaaDoor
open Go.RowKit

set_option maxHeartbeats 2000000 in
theorem right_op (o : O) (n : Int) (w : World) (h0 : -9223372036854775808 ≤ n) (h1 : n ≤ 9223372036854775807) : Calls Tryd.prog 39 #[.agg o.arr, .int .i64 n] w (Says (.bool (o.rightB n)) w) := by
  obtain ⟨z, hz⟩ : ∃ z, V.zero = z := ⟨_, rfl⟩
  have HZ := Lib.hid hz
  clear hz
  have hb1 := fun w => box29 o w
  have HT := Lib.hid (ow_new w o)
  have HN := Lib.hid (fun w => next_any o.v o.r o.s w o.hr o.hs)
  have HR := Lib.hid (fun w => right_any o.v n w h0 h1)
  have HK := Lib.hid (fun w => kind_any o w)
  have HX := Lib.hid (O.next_zero o.v o.r o.s)
  have hr := o.hr
  have ht := o.ht
  generalize V.nextE o.v o.r o.s = E at HN HX
  generalize V.nextV o.v o.r o.s = u at HN
  go_enter Tryd.func39, Tryd.ntmps39
  go_wp2_with (first | (refine wpList_run rfl (exec_ctx (p := o) rfl rfl HT.out.one) ?_) | (refine wpList_run rfl (exec_dot (p := o) rfl rfl HT.out.one) ?_))
  clear hb1
  generalize w.alloc (.cells o.arr 29) = W at HT
  refine (HN.out _).mono ?_
  rintro e w1 ⟨rfl, hb⟩
  have HT1 := Lib.hid (HT.out.below hb)
  clear hb HT
  go_wp2_with (first | (refine wpList_alloc27 HZ.out rfl rfl ?_) | (refine wpList_stop rfl ?_))
  refine ⟨?_⟩
  refine wpList_store27 rfl rfl rfl rfl (Blk.new w1 27 z.arr) ?_
  have HT2 := Lib.hid (HT1.out.below (laid_old w1 z u))
  clear HT1
  generalize (w1.alloc (.cells z.arr 27)).setRow w1.heap.size u.arr = w2 at HT2
  by_cases hE : E = 0
  · subst hE
    obtain ⟨hd1, hd2⟩ := HX.out.1 rfl
    have c0 := oc0 HT2.out.one
    by_cases hn : (o.r : Int) < n
    · cases hv : V.rightB o.v n
      · have HE : Hid (o.rightB n = false) := Lib.hid (O.right_no (fun h => by have := h.2.2.2.1; rw [hv] at this; cases this))
        rw [hv] at HR
        clear hv hd1 hd2
        go_wp2_with (refine wpList_runW (exec_ctx (p := o) rfl rfl HT2.out.one) (by kernel_rfl) ?_)
        refine (HR.out _).mono ?_
        rintro e w3 ⟨rfl, hb⟩
        have HT3 := Lib.hid (HT2.out.below hb)
        clear hb
        go_wp2_with fail
        go_ret
        exact ⟨ret_bool HE.out.symm, HT3.out.old⟩
      · by_cases htk : o.t ≤ 1073741824
        · have HE : Hid (o.rightB n = o.kindB) := Lib.hid (by
            rw [Bool.eq_iff_iff, O.right_iff]
            exact ⟨fun h => h.2.2.2.2.2, fun h => ⟨hd1, hd2, hn, hv, htk, h⟩⟩)
          rw [hv] at HR
          have htk' : (o.t : Int) ≤ 1073741824 := by omega
          clear hv hd1 hd2
          go_wp2_with (refine wpList_runW (exec_ctx (p := o) rfl rfl HT2.out.one) (by kernel_rfl) ?_)
          refine (HR.out _).mono ?_
          rintro e w3 ⟨rfl, hb⟩
          have HT3 := Lib.hid (HT2.out.below hb)
          have c6 := oc6 HT3.out.one
          clear hb
          go_wp2_with (refine wpList_runW (exec_load29 (p := o) rfl rfl HT3.out.one) (by kernel_rfl) ?_)
          refine (HK.out _).mono ?_
          rintro e w4 ⟨rfl, hb⟩
          have HT4 := Lib.hid (HT3.out.below hb)
          clear hb
          go_wp2_with fail
          go_ret
          exact ⟨ret_bool HE.out.symm, HT4.out.old⟩
        · have HE : Hid (o.rightB n = false) := Lib.hid (O.right_no (fun h => htk h.2.2.2.2.1))
          rw [hv] at HR
          have htk' : (1073741824 : Int) < (o.t : Int) := by omega
          clear hv hd1 hd2
          go_wp2_with (refine wpList_runW (exec_ctx (p := o) rfl rfl HT2.out.one) (by kernel_rfl) ?_)
          refine (HR.out _).mono ?_
          rintro e w3 ⟨rfl, hb⟩
          have HT3 := Lib.hid (HT2.out.below hb)
          have c6 := oc6 HT3.out.one
          clear hb
          go_wp2_with fail
          go_ret
          exact ⟨ret_bool HE.out.symm, HT3.out.old⟩
    · have HE : Hid (o.rightB n = false) := Lib.hid (O.right_no (fun h => hn h.2.2.1))
      have hn' : n ≤ (o.r : Int) := by omega
      go_wp2_with fail
      go_ret
      exact ⟨ret_bool HE.out.symm, HT2.out.old⟩
  · have HE : Hid (o.rightB n = false) := Lib.hid (O.right_no (fun h => hE (HX.out.2 ⟨h.1, h.2.1⟩)))
    have g0 : ((E : Int) == 0) = false := by simp <;> omega
    go_wp2_with fail
    go_ret
    exact ⟨ret_bool HE.out.symm, HT2.out.old⟩

end Go.Proofs.YtfnaccmgmocolaaDoor

namespace Go.Proofs.YtfnaccmgmocolaaDoor
open Go.RowKit

section
variable {ev : Operand → Value} {o : Oper} {w : World}
/-- The address of a number of a vector. -/
theorem exec_index27 {x y : Operand} {b off j : Nat} (ho : o.op = .indexAddr 27 x y) (hx : ev x = .pointer (some ⟨b, off, none⟩)) (hy : ev y = .int .u8 (j : Int)) (hj : j < 16) : (execOp ev o).run Tryd.prog w = .ok (.value (.pointer (some ⟨b, off + j, none⟩))) w := by
  unfold execOp
  have h2 : (j : Int) < 16 := by omega
  have h0 : (0 : Int) ≤ (j : Int) := by omega
  have hu := und27
  have hz : (Go.sizeOf 22).run Tryd.prog w = .ok 1 w := by kernel_rfl
  simp only [ho, hx, hy]
  go_simp
theorem exec_pred {x y : Operand} {s : Nat} (ho : o.op = .binOp .sub 22 x y 22) (hx : ev x = .int .u32 (s : Int)) (hy : ev y = .int .u32 1) (hs : s < 4294967296) (h1 : 1 ≤ s) : (execOp ev o).run Tryd.prog w = .ok (.value (.int .u32 ((s - 1 : Nat) : Int))) w := by
  have e : IntKind.u32.wrap ((s : Int) - 1) = (s : Int) - 1 := by have := wrap_sub s 1 hs h1; simpa using this
  have e2 : ((s - 1 : Nat) : Int) = (s : Int) - 1 := by omega
  rw [e2, ← e]
  unfold execOp
  simp [ho, hx, hy, eqGuard, binOp, Op.intArith]
end

theorem pred_eq {x s : Nat} (h : 1 ≤ s) (e : x + 1 = s) : ((x : Int) == ((s - 1 : Nat) : Int)) = true := by simp; omega
theorem pred_ne {x s : Nat} (h : 1 ≤ s) (e : ¬ x + 1 = s) : ((x : Int) == ((s - 1 : Nat) : Int)) = false := by simp; omega
theorem tick_le {t : Nat} (h : t ≤ 1073741824) : decide ((t : Int) ≤ 1073741824) = true := by simp; omega
theorem tick_gt {t : Nat} (h : ¬ t ≤ 1073741824) : decide ((t : Int) ≤ 1073741824) = false := by simp; omega

set_option maxHeartbeats 4000000 in
theorem rright_op (o : O) (n : Int) (w : World) (h0 : -9223372036854775808 ≤ n) (h1 : n ≤ 9223372036854775807) : Calls Tryd.prog 37 #[.agg o.arr, .int .i64 n] w (Says (.bool (o.rightB n)) w) := by
  have hb1 := fun w => box29 o w
  have HT := Lib.hid (ow_new w o)
  have HD := Lib.hid (fun w => rdot_any o.r o.s w o.hr o.hs)
  have HR := Lib.hid (fun w => rright_any o.v n w h0 h1)
  have HK := Lib.hid (fun w => rkind_any o w)
  have c0 := oc0 (ow_new w o).one
  have hr := o.hr
  have hs := o.hs
  by_cases hn1 : n < 1
  · have HE : Hid (o.rightB n = false) := Lib.hid (O.right_no (fun h => by have := h.2.2.1; omega))
    go_enter Tryd.func37, Tryd.ntmps37
    go_wp2_with fail
    go_ret
    exact ⟨ret_bool HE.out.symm, HT.out.old⟩
  have hn1' : 1 ≤ n := by omega
  by_cases hn2 : 16 < n
  · have HE : Hid (o.rightB n = false) := Lib.hid (O.right_no (fun h => by
      have := h.2.2.2.1
      simp only [V.rightB, Bool.and_eq_true, decide_eq_true_eq] at this
      omega))
    clear hn1
    go_enter Tryd.func37, Tryd.ntmps37
    go_wp2_with fail
    go_ret
    exact ⟨ret_bool HE.out.symm, HT.out.old⟩
  have hn2' : n ≤ 16 := by omega
  clear hn1 hn2
  have gn1 : decide (n < 1) = false := by simp; omega
  have gn2 : decide (16 < n) = false := by simp; omega
  by_cases hn : (o.r : Int) < n
  · have gn3 : decide (n ≤ (o.r : Int)) = false := by simp; omega
    go_enter Tryd.func37, Tryd.ntmps37
    go_wp2_with (refine wpList_runW (exec_dot (p := o) rfl rfl HT.out.one) (by kernel_rfl) ?_)
    clear hb1 c0
    generalize w.alloc (.cells o.arr 29) = W at HT
    cases hd : V.dotB o.r o.s
    · have HE : Hid (o.rightB n = false) := Lib.hid (O.right_no (fun h => by have := h.1; rw [hd] at this; cases this))
      rw [hd] at HD
      clear hd
      refine (HD.out _).mono ?_
      rintro e w1 ⟨rfl, hb⟩
      have HT1 := Lib.hid (HT.out.below hb)
      clear hb
      go_wp2_with fail
      go_ret
      exact ⟨ret_bool HE.out.symm, HT1.out.old⟩
    · have HD1 := Lib.hid hd
      obtain ⟨hr1, hs1, hs2⟩ := dotB_lt hd
      rw [hd] at HD
      clear hd
      refine (HD.out _).mono ?_
      rintro e w1 ⟨rfl, hb⟩
      have HT1 := Lib.hid (HT.out.below hb)
      clear hb HT
      go_wp2_with (refine wpList_runW (exec_ctx (p := o) rfl rfl HT1.out.one) (by kernel_rfl) ?_)
      cases hv : V.rightB o.v n
      · have HE : Hid (o.rightB n = false) := Lib.hid (O.right_no (fun h => by have := h.2.2.2.1; rw [hv] at this; cases this))
        rw [hv] at HR
        clear hv
        refine (HR.out _).mono ?_
        rintro e w2 ⟨rfl, hb⟩
        have HT2 := Lib.hid (HT1.out.below hb)
        clear hb
        go_wp2_with fail
        go_ret
        exact ⟨ret_bool HE.out.symm, HT2.out.old⟩
      · have HV := Lib.hid hv
        rw [hv] at HR
        clear hv
        refine (HR.out _).mono ?_
        rintro e w2 ⟨rfl, hb⟩
        have HT2 := Lib.hid (HT1.out.below hb)
        clear hb HT1
        go_wp2_with fail
        by_cases hq : o.v.at_ o.r + 1 = o.s
        · by_cases htk : o.t ≤ 1073741824
          · have HE : Hid (o.rightB n = o.kindB) := Lib.hid (by
              rw [Bool.eq_iff_iff, O.right_iff]
              exact ⟨fun h => h.2.2.2.2.2, fun h => ⟨HD1.out, hq, hn, HV.out, htk, h⟩⟩)
            refine wp_region_held_drew (S := fun w' => Ow w w' o) (by kernel_rfl) HT2.out.drew (fun hS => ?_)
            refine held_take 0 32 (.pointer (some ⟨w.heap.size, 0, none⟩)) rfl rfl (by kernel_rfl) (by kernel_rfl) (by kernel_rfl) (fun _ _ _ h => h) (by kernel_rfl) (fun _ _ => (by kernel_rfl)) hS ?_
            simp only [Act.put, List.setIfInBounds_toArray, List.set_cons_zero, List.set_cons_succ]
            refine held_take 1 33 (.pointer (some ⟨w.heap.size, 0, none⟩)) rfl rfl (by kernel_rfl) (by kernel_rfl) (by kernel_rfl) (fun _ _ _ h => h) (by kernel_rfl) (fun _ _ => (by kernel_rfl)) hS ?_
            simp only [Act.put, List.setIfInBounds_toArray, List.set_cons_zero, List.set_cons_succ]
            refine held_take 2 34 (.int .u8 (o.r : Int)) rfl rfl (by kernel_rfl) (by kernel_rfl) (by kernel_rfl) (fun _ _ _ h => h) (by kernel_rfl) (fun _ h => exec_cell rfl rfl (load_cell (by kernel_rfl) (oc0 h.one))) hS ?_
            simp only [Act.put, List.setIfInBounds_toArray, List.set_cons_zero, List.set_cons_succ]
            refine held_take 3 35 (.pointer (some ⟨w.heap.size, 7, none⟩)) rfl rfl (by kernel_rfl) (by kernel_rfl) (by kernel_rfl) (fun _ _ _ h => h) (by kernel_rfl) (fun _ _ => (by kernel_rfl)) hS ?_
            simp only [Act.put, List.setIfInBounds_toArray, List.set_cons_zero, List.set_cons_succ]
            refine held_take 4 36 (.pointer (some ⟨w.heap.size, 7 + o.r, none⟩)) rfl rfl (by kernel_rfl) (by kernel_rfl) (by kernel_rfl) (fun _ _ _ h => h) (by kernel_rfl) (fun _ _ => exec_index27 rfl rfl rfl hr1) hS ?_
            simp only [Act.put, List.setIfInBounds_toArray, List.set_cons_zero, List.set_cons_succ]
            refine held_take 5 37 (.int .u32 (o.v.at_ o.r : Int)) rfl rfl (by kernel_rfl) (by kernel_rfl) (by kernel_rfl) (fun _ _ _ h => h) (by kernel_rfl) (fun _ h => exec_cell rfl rfl (load_cell (by kernel_rfl) (oc7 h.one hr1))) hS ?_
            simp only [Act.put, List.setIfInBounds_toArray, List.set_cons_zero, List.set_cons_succ]
            refine held_take 6 38 (.pointer (some ⟨w.heap.size, 0, none⟩)) rfl rfl (by kernel_rfl) (by kernel_rfl) (by kernel_rfl) (fun _ _ _ h => h) (by kernel_rfl) (fun _ _ => (by kernel_rfl)) hS ?_
            simp only [Act.put, List.setIfInBounds_toArray, List.set_cons_zero, List.set_cons_succ]
            refine held_take 7 39 (.pointer (some ⟨w.heap.size, 1, none⟩)) rfl rfl (by kernel_rfl) (by kernel_rfl) (by kernel_rfl) (fun _ _ _ h => h) (by kernel_rfl) (fun _ _ => (by kernel_rfl)) hS ?_
            simp only [Act.put, List.setIfInBounds_toArray, List.set_cons_zero, List.set_cons_succ]
            refine held_take 8 40 (.int .u32 (o.s : Int)) rfl rfl (by kernel_rfl) (by kernel_rfl) (by kernel_rfl) (fun _ _ _ h => h) (by kernel_rfl) (fun _ h => exec_cell rfl rfl (load_cell (by kernel_rfl) (oc1 h.one))) hS ?_
            simp only [Act.put, List.setIfInBounds_toArray, List.set_cons_zero, List.set_cons_succ]
            refine held_take 9 41 (.int .u32 ((o.s - 1 : Nat) : Int)) rfl rfl (by kernel_rfl) (by kernel_rfl) (by kernel_rfl) (fun _ _ _ h => h) (by kernel_rfl) (fun _ _ => exec_pred rfl rfl rfl hs (by omega)) hS ?_
            simp only [Act.put, List.setIfInBounds_toArray, List.set_cons_zero, List.set_cons_succ]
            refine held_take 10 42 (.bool true) rfl rfl (by kernel_rfl) (by kernel_rfl) (by kernel_rfl) (fun _ _ _ h => h) (by kernel_rfl) (fun _ _ => exec_eqlI trivial rfl rfl rfl (pred_eq (by omega) hq)) hS ?_
            simp only [Act.put, List.setIfInBounds_toArray, List.set_cons_zero, List.set_cons_succ]
            refine held_take 11 43 (.bool true) rfl rfl (by kernel_rfl) (by kernel_rfl) (by kernel_rfl) (fun _ _ _ h => h) (by kernel_rfl) (fun _ _ => rfl) hS ?_
            simp only [Act.put, List.setIfInBounds_toArray, List.set_cons_zero, List.set_cons_succ]
            refine held_take 12 44 (.pointer (some ⟨w.heap.size, 6, none⟩)) rfl rfl (by kernel_rfl) (by kernel_rfl) (by kernel_rfl) (fun _ _ _ h => h) (by kernel_rfl) (fun _ _ => (by kernel_rfl)) hS ?_
            simp only [Act.put, List.setIfInBounds_toArray, List.set_cons_zero, List.set_cons_succ]
            refine held_take 13 45 (.int .u32 (o.t : Int)) rfl rfl (by kernel_rfl) (by kernel_rfl) (by kernel_rfl) (fun _ _ _ h => h) (by kernel_rfl) (fun _ h => exec_cell rfl rfl (load_cell (by kernel_rfl) (oc6 h.one))) hS ?_
            simp only [Act.put, List.setIfInBounds_toArray, List.set_cons_zero, List.set_cons_succ]
            refine held_take 14 46 (.bool true) rfl rfl (by kernel_rfl) (by kernel_rfl) (by kernel_rfl) (fun _ _ _ h => h) (by kernel_rfl) (fun _ _ => exec_leqI rfl rfl rfl (tick_le htk)) hS ?_
            simp only [Act.put, List.setIfInBounds_toArray, List.set_cons_zero, List.set_cons_succ]
            refine held_take 15 47 (.bool true) rfl rfl (by kernel_rfl) (by kernel_rfl) (by kernel_rfl) (fun _ _ _ h => h) (by kernel_rfl) (fun _ _ => rfl) hS ?_
            simp only [Act.put, List.setIfInBounds_toArray, List.set_cons_zero, List.set_cons_succ]
            refine held_take 16 48 (.bool true) rfl rfl (by kernel_rfl) (by kernel_rfl) (by kernel_rfl) (fun _ _ _ h => h) (by kernel_rfl) (fun _ _ => rfl) hS ?_
            simp only [Act.put, List.setIfInBounds_toArray, List.set_cons_zero, List.set_cons_succ]
            refine held_take 17 49 (.agg o.arr) rfl rfl (by kernel_rfl) (by kernel_rfl) (by kernel_rfl) (fun _ _ _ h => h) (by kernel_rfl) (fun _ h => exec_load29 (p := o) rfl rfl h.one) hS ?_
            simp only [Act.put, List.setIfInBounds_toArray, List.set_cons_zero, List.set_cons_succ]
            refine held_call 18 50 65 #[(.agg o.arr)] (.bool o.kindB) rfl (by kernel_rfl) rfl (by kernel_rfl) (by kernel_rfl) (HK.out _) (fun _ h hb => h.below hb) hS (fun w118 hS => ?_)
            simp only [Act.put, List.setIfInBounds_toArray, List.set_cons_zero, List.set_cons_succ]
            refine held_take 19 51 (.bool o.kindB) rfl rfl (by kernel_rfl) (by kernel_rfl) (by kernel_rfl) (fun _ _ _ h => h) (by kernel_rfl) (fun _ _ => rfl) hS ?_
            simp only [Act.put, List.setIfInBounds_toArray, List.set_cons_zero, List.set_cons_succ]
            refine held_take 20 4 (.bool o.kindB) rfl rfl (by kernel_rfl) (by kernel_rfl) (by kernel_rfl) (fun _ _ _ h => h) (by kernel_rfl) (fun _ _ => rfl) hS ?_
            simp only [Act.put, List.setIfInBounds_toArray, List.set_cons_zero, List.set_cons_succ]
            refine wpAnyH_done (by kernel_rfl) ?_ _
            go_wp2_with fail
            go_ret
            exact ⟨ret_bool HE.out.symm, hS.old⟩
          · have HE : Hid (o.rightB n = false) := Lib.hid (O.right_no (fun h => htk h.2.2.2.2.1))
            refine wp_region_held_drew (S := fun w' => Ow w w' o) (by kernel_rfl) HT2.out.drew (fun hS => ?_)
            refine held_take 0 32 (.pointer (some ⟨w.heap.size, 0, none⟩)) rfl rfl (by kernel_rfl) (by kernel_rfl) (by kernel_rfl) (fun _ _ _ h => h) (by kernel_rfl) (fun _ _ => (by kernel_rfl)) hS ?_
            simp only [Act.put, List.setIfInBounds_toArray, List.set_cons_zero, List.set_cons_succ]
            refine held_take 1 33 (.pointer (some ⟨w.heap.size, 0, none⟩)) rfl rfl (by kernel_rfl) (by kernel_rfl) (by kernel_rfl) (fun _ _ _ h => h) (by kernel_rfl) (fun _ _ => (by kernel_rfl)) hS ?_
            simp only [Act.put, List.setIfInBounds_toArray, List.set_cons_zero, List.set_cons_succ]
            refine held_take 2 34 (.int .u8 (o.r : Int)) rfl rfl (by kernel_rfl) (by kernel_rfl) (by kernel_rfl) (fun _ _ _ h => h) (by kernel_rfl) (fun _ h => exec_cell rfl rfl (load_cell (by kernel_rfl) (oc0 h.one))) hS ?_
            simp only [Act.put, List.setIfInBounds_toArray, List.set_cons_zero, List.set_cons_succ]
            refine held_take 3 35 (.pointer (some ⟨w.heap.size, 7, none⟩)) rfl rfl (by kernel_rfl) (by kernel_rfl) (by kernel_rfl) (fun _ _ _ h => h) (by kernel_rfl) (fun _ _ => (by kernel_rfl)) hS ?_
            simp only [Act.put, List.setIfInBounds_toArray, List.set_cons_zero, List.set_cons_succ]
            refine held_take 4 36 (.pointer (some ⟨w.heap.size, 7 + o.r, none⟩)) rfl rfl (by kernel_rfl) (by kernel_rfl) (by kernel_rfl) (fun _ _ _ h => h) (by kernel_rfl) (fun _ _ => exec_index27 rfl rfl rfl hr1) hS ?_
            simp only [Act.put, List.setIfInBounds_toArray, List.set_cons_zero, List.set_cons_succ]
            refine held_take 5 37 (.int .u32 (o.v.at_ o.r : Int)) rfl rfl (by kernel_rfl) (by kernel_rfl) (by kernel_rfl) (fun _ _ _ h => h) (by kernel_rfl) (fun _ h => exec_cell rfl rfl (load_cell (by kernel_rfl) (oc7 h.one hr1))) hS ?_
            simp only [Act.put, List.setIfInBounds_toArray, List.set_cons_zero, List.set_cons_succ]
            refine held_take 6 38 (.pointer (some ⟨w.heap.size, 0, none⟩)) rfl rfl (by kernel_rfl) (by kernel_rfl) (by kernel_rfl) (fun _ _ _ h => h) (by kernel_rfl) (fun _ _ => (by kernel_rfl)) hS ?_
            simp only [Act.put, List.setIfInBounds_toArray, List.set_cons_zero, List.set_cons_succ]
            refine held_take 7 39 (.pointer (some ⟨w.heap.size, 1, none⟩)) rfl rfl (by kernel_rfl) (by kernel_rfl) (by kernel_rfl) (fun _ _ _ h => h) (by kernel_rfl) (fun _ _ => (by kernel_rfl)) hS ?_
            simp only [Act.put, List.setIfInBounds_toArray, List.set_cons_zero, List.set_cons_succ]
            refine held_take 8 40 (.int .u32 (o.s : Int)) rfl rfl (by kernel_rfl) (by kernel_rfl) (by kernel_rfl) (fun _ _ _ h => h) (by kernel_rfl) (fun _ h => exec_cell rfl rfl (load_cell (by kernel_rfl) (oc1 h.one))) hS ?_
            simp only [Act.put, List.setIfInBounds_toArray, List.set_cons_zero, List.set_cons_succ]
            refine held_take 9 41 (.int .u32 ((o.s - 1 : Nat) : Int)) rfl rfl (by kernel_rfl) (by kernel_rfl) (by kernel_rfl) (fun _ _ _ h => h) (by kernel_rfl) (fun _ _ => exec_pred rfl rfl rfl hs (by omega)) hS ?_
            simp only [Act.put, List.setIfInBounds_toArray, List.set_cons_zero, List.set_cons_succ]
            refine held_take 10 42 (.bool true) rfl rfl (by kernel_rfl) (by kernel_rfl) (by kernel_rfl) (fun _ _ _ h => h) (by kernel_rfl) (fun _ _ => exec_eqlI trivial rfl rfl rfl (pred_eq (by omega) hq)) hS ?_
            simp only [Act.put, List.setIfInBounds_toArray, List.set_cons_zero, List.set_cons_succ]
            refine held_take 11 43 (.bool true) rfl rfl (by kernel_rfl) (by kernel_rfl) (by kernel_rfl) (fun _ _ _ h => h) (by kernel_rfl) (fun _ _ => rfl) hS ?_
            simp only [Act.put, List.setIfInBounds_toArray, List.set_cons_zero, List.set_cons_succ]
            refine held_take 12 44 (.pointer (some ⟨w.heap.size, 6, none⟩)) rfl rfl (by kernel_rfl) (by kernel_rfl) (by kernel_rfl) (fun _ _ _ h => h) (by kernel_rfl) (fun _ _ => (by kernel_rfl)) hS ?_
            simp only [Act.put, List.setIfInBounds_toArray, List.set_cons_zero, List.set_cons_succ]
            refine held_take 13 45 (.int .u32 (o.t : Int)) rfl rfl (by kernel_rfl) (by kernel_rfl) (by kernel_rfl) (fun _ _ _ h => h) (by kernel_rfl) (fun _ h => exec_cell rfl rfl (load_cell (by kernel_rfl) (oc6 h.one))) hS ?_
            simp only [Act.put, List.setIfInBounds_toArray, List.set_cons_zero, List.set_cons_succ]
            refine held_take 14 46 (.bool false) rfl rfl (by kernel_rfl) (by kernel_rfl) (by kernel_rfl) (fun _ _ _ h => h) (by kernel_rfl) (fun _ _ => exec_leqI rfl rfl rfl (tick_gt htk)) hS ?_
            simp only [Act.put, List.setIfInBounds_toArray, List.set_cons_zero, List.set_cons_succ]
            refine held_take 15 47 (.bool false) rfl rfl (by kernel_rfl) (by kernel_rfl) (by kernel_rfl) (fun _ _ _ h => h) (by kernel_rfl) (fun _ _ => rfl) hS ?_
            simp only [Act.put, List.setIfInBounds_toArray, List.set_cons_zero, List.set_cons_succ]
            refine held_take 16 48 (.bool false) rfl rfl (by kernel_rfl) (by kernel_rfl) (by kernel_rfl) (fun _ _ _ h => h) (by kernel_rfl) (fun _ _ => rfl) hS ?_
            simp only [Act.put, List.setIfInBounds_toArray, List.set_cons_zero, List.set_cons_succ]
            refine held_skip 17 49 rfl rfl (by kernel_rfl) (by kernel_rfl) (by kernel_rfl) (fun _ _ _ h => h) (by kernel_rfl) hS ?_
            simp only [Act.put, List.setIfInBounds_toArray, List.set_cons_zero, List.set_cons_succ]
            refine held_skip 18 50 rfl rfl (by kernel_rfl) (by kernel_rfl) (by kernel_rfl) (fun _ _ _ h => h) (by kernel_rfl) hS ?_
            simp only [Act.put, List.setIfInBounds_toArray, List.set_cons_zero, List.set_cons_succ]
            refine held_take 19 51 (.bool false) rfl rfl (by kernel_rfl) (by kernel_rfl) (by kernel_rfl) (fun _ _ _ h => h) (by kernel_rfl) (fun _ _ => rfl) hS ?_
            simp only [Act.put, List.setIfInBounds_toArray, List.set_cons_zero, List.set_cons_succ]
            refine held_take 20 4 (.bool false) rfl rfl (by kernel_rfl) (by kernel_rfl) (by kernel_rfl) (fun _ _ _ h => h) (by kernel_rfl) (fun _ _ => rfl) hS ?_
            simp only [Act.put, List.setIfInBounds_toArray, List.set_cons_zero, List.set_cons_succ]
            refine wpAnyH_done (by kernel_rfl) ?_ _
            go_wp2_with fail
            go_ret
            exact ⟨ret_bool HE.out.symm, hS.old⟩
        · have HE : Hid (o.rightB n = false) := Lib.hid (O.right_no (fun h => hq h.2.1))
          refine wp_region_held_drew (S := fun w' => Ow w w' o) (by kernel_rfl) HT2.out.drew (fun hS => ?_)
          refine held_take 0 32 (.pointer (some ⟨w.heap.size, 0, none⟩)) rfl rfl (by kernel_rfl) (by kernel_rfl) (by kernel_rfl) (fun _ _ _ h => h) (by kernel_rfl) (fun _ _ => (by kernel_rfl)) hS ?_
          simp only [Act.put, List.setIfInBounds_toArray, List.set_cons_zero, List.set_cons_succ]
          refine held_take 1 33 (.pointer (some ⟨w.heap.size, 0, none⟩)) rfl rfl (by kernel_rfl) (by kernel_rfl) (by kernel_rfl) (fun _ _ _ h => h) (by kernel_rfl) (fun _ _ => (by kernel_rfl)) hS ?_
          simp only [Act.put, List.setIfInBounds_toArray, List.set_cons_zero, List.set_cons_succ]
          refine held_take 2 34 (.int .u8 (o.r : Int)) rfl rfl (by kernel_rfl) (by kernel_rfl) (by kernel_rfl) (fun _ _ _ h => h) (by kernel_rfl) (fun _ h => exec_cell rfl rfl (load_cell (by kernel_rfl) (oc0 h.one))) hS ?_
          simp only [Act.put, List.setIfInBounds_toArray, List.set_cons_zero, List.set_cons_succ]
          refine held_take 3 35 (.pointer (some ⟨w.heap.size, 7, none⟩)) rfl rfl (by kernel_rfl) (by kernel_rfl) (by kernel_rfl) (fun _ _ _ h => h) (by kernel_rfl) (fun _ _ => (by kernel_rfl)) hS ?_
          simp only [Act.put, List.setIfInBounds_toArray, List.set_cons_zero, List.set_cons_succ]
          refine held_take 4 36 (.pointer (some ⟨w.heap.size, 7 + o.r, none⟩)) rfl rfl (by kernel_rfl) (by kernel_rfl) (by kernel_rfl) (fun _ _ _ h => h) (by kernel_rfl) (fun _ _ => exec_index27 rfl rfl rfl hr1) hS ?_
          simp only [Act.put, List.setIfInBounds_toArray, List.set_cons_zero, List.set_cons_succ]
          refine held_take 5 37 (.int .u32 (o.v.at_ o.r : Int)) rfl rfl (by kernel_rfl) (by kernel_rfl) (by kernel_rfl) (fun _ _ _ h => h) (by kernel_rfl) (fun _ h => exec_cell rfl rfl (load_cell (by kernel_rfl) (oc7 h.one hr1))) hS ?_
          simp only [Act.put, List.setIfInBounds_toArray, List.set_cons_zero, List.set_cons_succ]
          refine held_take 6 38 (.pointer (some ⟨w.heap.size, 0, none⟩)) rfl rfl (by kernel_rfl) (by kernel_rfl) (by kernel_rfl) (fun _ _ _ h => h) (by kernel_rfl) (fun _ _ => (by kernel_rfl)) hS ?_
          simp only [Act.put, List.setIfInBounds_toArray, List.set_cons_zero, List.set_cons_succ]
          refine held_take 7 39 (.pointer (some ⟨w.heap.size, 1, none⟩)) rfl rfl (by kernel_rfl) (by kernel_rfl) (by kernel_rfl) (fun _ _ _ h => h) (by kernel_rfl) (fun _ _ => (by kernel_rfl)) hS ?_
          simp only [Act.put, List.setIfInBounds_toArray, List.set_cons_zero, List.set_cons_succ]
          refine held_take 8 40 (.int .u32 (o.s : Int)) rfl rfl (by kernel_rfl) (by kernel_rfl) (by kernel_rfl) (fun _ _ _ h => h) (by kernel_rfl) (fun _ h => exec_cell rfl rfl (load_cell (by kernel_rfl) (oc1 h.one))) hS ?_
          simp only [Act.put, List.setIfInBounds_toArray, List.set_cons_zero, List.set_cons_succ]
          refine held_take 9 41 (.int .u32 ((o.s - 1 : Nat) : Int)) rfl rfl (by kernel_rfl) (by kernel_rfl) (by kernel_rfl) (fun _ _ _ h => h) (by kernel_rfl) (fun _ _ => exec_pred rfl rfl rfl hs (by omega)) hS ?_
          simp only [Act.put, List.setIfInBounds_toArray, List.set_cons_zero, List.set_cons_succ]
          refine held_take 10 42 (.bool false) rfl rfl (by kernel_rfl) (by kernel_rfl) (by kernel_rfl) (fun _ _ _ h => h) (by kernel_rfl) (fun _ _ => exec_eqlI trivial rfl rfl rfl (pred_ne (by omega) hq)) hS ?_
          simp only [Act.put, List.setIfInBounds_toArray, List.set_cons_zero, List.set_cons_succ]
          refine held_take 11 43 (.bool false) rfl rfl (by kernel_rfl) (by kernel_rfl) (by kernel_rfl) (fun _ _ _ h => h) (by kernel_rfl) (fun _ _ => rfl) hS ?_
          simp only [Act.put, List.setIfInBounds_toArray, List.set_cons_zero, List.set_cons_succ]
          refine held_skip 12 44 rfl rfl (by kernel_rfl) (by kernel_rfl) (by kernel_rfl) (fun _ _ _ h => h) (by kernel_rfl) hS ?_
          simp only [Act.put, List.setIfInBounds_toArray, List.set_cons_zero, List.set_cons_succ]
          refine held_skip 13 45 rfl rfl (by kernel_rfl) (by kernel_rfl) (by kernel_rfl) (fun _ _ _ h => h) (by kernel_rfl) hS ?_
          simp only [Act.put, List.setIfInBounds_toArray, List.set_cons_zero, List.set_cons_succ]
          refine held_skip 14 46 rfl rfl (by kernel_rfl) (by kernel_rfl) (by kernel_rfl) (fun _ _ _ h => h) (by kernel_rfl) hS ?_
          simp only [Act.put, List.setIfInBounds_toArray, List.set_cons_zero, List.set_cons_succ]
          refine held_take 15 47 (.bool false) rfl rfl (by kernel_rfl) (by kernel_rfl) (by kernel_rfl) (fun _ _ _ h => h) (by kernel_rfl) (fun _ _ => rfl) hS ?_
          simp only [Act.put, List.setIfInBounds_toArray, List.set_cons_zero, List.set_cons_succ]
          refine held_take 16 48 (.bool false) rfl rfl (by kernel_rfl) (by kernel_rfl) (by kernel_rfl) (fun _ _ _ h => h) (by kernel_rfl) (fun _ _ => rfl) hS ?_
          simp only [Act.put, List.setIfInBounds_toArray, List.set_cons_zero, List.set_cons_succ]
          refine held_skip 17 49 rfl rfl (by kernel_rfl) (by kernel_rfl) (by kernel_rfl) (fun _ _ _ h => h) (by kernel_rfl) hS ?_
          simp only [Act.put, List.setIfInBounds_toArray, List.set_cons_zero, List.set_cons_succ]
          refine held_skip 18 50 rfl rfl (by kernel_rfl) (by kernel_rfl) (by kernel_rfl) (fun _ _ _ h => h) (by kernel_rfl) hS ?_
          simp only [Act.put, List.setIfInBounds_toArray, List.set_cons_zero, List.set_cons_succ]
          refine held_take 19 51 (.bool false) rfl rfl (by kernel_rfl) (by kernel_rfl) (by kernel_rfl) (fun _ _ _ h => h) (by kernel_rfl) (fun _ _ => rfl) hS ?_
          simp only [Act.put, List.setIfInBounds_toArray, List.set_cons_zero, List.set_cons_succ]
          refine held_take 20 4 (.bool false) rfl rfl (by kernel_rfl) (by kernel_rfl) (by kernel_rfl) (fun _ _ _ h => h) (by kernel_rfl) (fun _ _ => rfl) hS ?_
          simp only [Act.put, List.setIfInBounds_toArray, List.set_cons_zero, List.set_cons_succ]
          refine wpAnyH_done (by kernel_rfl) ?_ _
          go_wp2_with fail
          go_ret
          exact ⟨ret_bool HE.out.symm, hS.old⟩
  · have HE : Hid (o.rightB n = false) := Lib.hid (O.right_no (fun h => hn h.2.2.1))
    have hn' : n ≤ (o.r : Int) := by omega
    clear hn
    go_enter Tryd.func37, Tryd.ntmps37
    go_wp2_with fail
    go_ret
    exact ⟨ret_bool HE.out.symm, HT.out.old⟩


end Go.Proofs.YtfnaccmgmocolaaDoor
