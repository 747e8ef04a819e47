import Derived.Deep.DeepCutAuto
import Derived.Test.YtnekpgmgnepdoaaGreatWab
namespace Go.Proofs.YtnekpgmgnepdoaaGreat
open Go.RowKit
theorem below_any (a b : V) (w : World) : Calls Tryz.prog 82 #[.agg a.arr, .agg b.arr] w (Says (.bool (V.belowB a b)) w) := by
 have hb1 := fun (v : V) (w : World) => box24 v w
 go_enter Tryz.func82, Tryz.ntmps82
 go_wp2_with fail
 clear hb1
 have HT := Lib.hid (two_new w a b)
 generalize (w.alloc (.cells a.arr 24)).alloc (.cells b.arr 24) = W at HT
 refine wp_region_held_drew (S := fun w' => Two w w' a b) (by kernel_rfl) HT.out.drew (fun hS => ?_)
 refine held_tk 0 5 (.agg a.arr) rfl rfl (by kernel_rfl) (fun _ _ _ h=>h) (fun _ h=>exec_load24 rfl rfl h.one) hS ?_;simp only [Act.put,ap1,ap2,ap3]
 refine held_tk 1 6 (.agg b.arr) rfl rfl (by kernel_rfl) (fun _ _ _ h=>h) (fun _ h=>exec_load24 rfl rfl h.two) hS ?_;simp only [Act.put,ap1,ap2,ap3]
 refine held_tk 3 8 (.agg b.arr) rfl rfl (by kernel_rfl) (fun _ _ _ h=>h) (fun _ h=>exec_load24 rfl rfl h.two) hS ?_;simp only [Act.put,ap1,ap2,ap3]
 refine held_call 2 7 57 #[.agg a.arr,.agg b.arr] (.agg (V.join a b).arr) rfl (by kernel_rfl) rfl (by kernel_rfl) (by kernel_rfl) (join_any a b _) (fun _ h hb=>h.below hb) hS (fun w2 hS=>?_)
 simp only [Act.put, ap1, ap2, ap3]
 refine held_tk 4 9 (.bool (V.belowB a b)) rfl rfl (by kernel_rfl) (fun _ _ _ h=>h) (fun _ h=>exec_eql24 rfl rfl rfl (V.below_join a b)) hS ?_;simp only [Act.put,ap1,ap2,ap3]
 refine held_tk 5 4 (.bool (V.belowB a b)) rfl rfl (by kernel_rfl) (fun _ _ _ h=>h) (fun _ h=>rfl) hS ?_;simp only [Act.put,ap1,ap2,ap3]
 refine wpAnyH_done (by kernel_rfl) ?_ _
 go_wp2_with fail
 go_ret
 exact ⟨rfl, hS.old⟩
theorem right_any (v : V) (n : Int) (w : World) (h0 : -9223372036854775808 ≤ n) (h1 : n ≤ 9223372036854775807) : Calls Tryz.prog 50 #[.agg v.arr, .int .i64 n] w (Says (.bool (V.rightB v n)) w) := by
 have hb1 := fun (v : V) (w : World) => box24 v w
 have hix := fun (i : Nat) (w : World) (h : i < 16) => index24 v .i64 i w h
 by_cases hn : 1 ≤ n ∧ n ≤ 16
 ·have HE : Hid (V.rightB v n = V.rightTo v n 16) := Lib.hid (by simp [V.rightB, hn])
  obtain ⟨n1, n2⟩ := hn
  go_enter Tryz.func50, Tryz.ntmps50
  go_wp2_with ((refine wpList_load24 rfl rfl rfl (Blk.new w 24 v.arr) ?_))
  clear hb1
  have HO := Lib.hid (below_one w (.cells v.arr 24))
  generalize w.alloc (.cells v.arr 24) = W at HO
  go_loop [14] (fun i => ∃ k : Nat, k ≤ 16 ∧ i = .int .i64 (k : Int) ∧ Hid (V.rightTo v n k = true)) (fun i => 16 - (intOf i).toNat)
  case atStart => exact ⟨0, by omega, rfl, Lib.hid (V.rightTo_zero v n)⟩
  case round =>
   obtain ⟨k, hk, rfl, HR⟩ := hrel
   by_cases hlt : k < 16
   ·have hix' := fun w => hix k w hlt
    have l1 := v.lt k
    clear hix
    by_cases g1 : v.at_ k ≤ 1048576
    ·by_cases g2 : n ≤ (k : Int)
     ·by_cases g3 : v.at_ k = 0
      ·have HR2 := Lib.hid (V.rightTo_succ v n k HR.out g1 (fun _ => g3))
       rw [g3] at hix'
       clear g3 g1 l1
       go_wp2_with fail
       go_round
       case rel => exact ⟨k + 1, by omega, by go_num, HR2⟩
       case measure => simp [intOf]; omega
      ·have HN := Lib.hid (V.rightTo_not v n hlt (.inr ⟨g2, g3⟩))
       generalize v.at_ k = x at hix' l1 g1 g3
       have g4 : ((x : Int) != 0) = true := by simp; omega
       go_wp2_with fail
       go_ret
       exact ⟨ret_bool (HE.out.trans HN.out).symm, HO.out⟩
     ·have HR2 := Lib.hid (V.rightTo_succ v n k HR.out g1 (fun h => absurd h g2))
      generalize v.at_ k = x at hix' l1 g1
      go_wp2_with fail
      go_round
      case rel => exact ⟨k + 1, by omega, by go_num, HR2⟩
      case measure => simp [intOf]; omega
    ·have HN := Lib.hid (V.rightTo_not v n hlt (.inl (by omega)))
     generalize v.at_ k = x at hix' l1 g1
     go_wp2_with fail
     go_ret
     exact ⟨ret_bool (HE.out.trans HN.out).symm, HO.out⟩
   ·obtain rfl : k = 16 := by omega
    clear hix
    go_wp2_with fail
    go_ret
    exact ⟨ret_bool (HE.out.trans HR.out).symm, HO.out⟩
 ·have HE : Hid (V.rightB v n = false) := Lib.hid (by simp [V.rightB]; intro h h2; exact absurd ⟨h, h2⟩ hn)
  have hn' : n < 1 ∨ 16 < n := by omega
  clear hix hn
  rcases hn' with hn' | hn'
  all_goals
   go_enter Tryz.func50, Tryz.ntmps50
   go_wp2_with fail
   go_ret
   exact ⟨ret_bool HE.out.symm, below_one _ _⟩
theorem rright_any (v : V) (n : Int) (w : World) (h0 : -9223372036854775808 ≤ n) (h1 : n ≤ 9223372036854775807) : Calls Tryz.prog 55 #[.agg v.arr, .int .i64 n] w (Says (.bool (V.rightB v n)) w) := by
 have hb1 := fun (v : V) (w : World) => box24 v w
 go_enter Tryz.func55, Tryz.ntmps55
 go_wp2_with fail
 clear hb1
 have HO := Lib.hid (below_one w (.cells v.arr 24))
 have HV := Lib.hid (Blk.new w 24 v.arr)
 generalize w.alloc (.cells v.arr 24) = W at HO HV
 go_loop [5] (fun i => ∃ k : Nat, k ≤ 16 ∧ i = .int .i64 (k : Int) ∧ Hid (V.rightTo v n k = true)) (fun i => 16 - (intOf i).toNat)
 case atStart => exact ⟨0, by omega, rfl, Lib.hid (V.rightTo_zero v n)⟩
 case round =>
  obtain ⟨k, hk, rfl, HR⟩ := hrel
  by_cases hlt : k < 16
  ·have c1 : W.cell? ⟨w.heap.size, k, none⟩ = some (.int .u32 (v.at_ k : Int)) := by rw [HV.out.cell, V.arr_at _ hlt]
   have l1 := v.lt k
   by_cases g1 : v.at_ k ≤ 1048576
   ·by_cases g2 : n ≤ (k : Int)
    ·by_cases g3 : v.at_ k = 0
     ·have HR2 := Lib.hid (V.rightTo_succ v n k HR.out g1 (fun _ => g3))
      rw [g3] at c1
      clear g3 g1 l1
      go_wp2_with fail
      go_round
      case rel => exact ⟨k + 1, by omega, by go_num, HR2⟩
      case measure => simp [intOf]; omega
     ·have HN := Lib.hid (V.rightTo_not v n hlt (.inr ⟨g2, g3⟩))
      generalize v.at_ k = x at c1 l1 g1 g3
      have g4 : ((x : Int) != 0) = true := by simp; omega
      go_wp2_with fail
      go_ret
      exact ⟨ret_bool (by rw [V.rightB, HN.out]; simp), HO.out⟩
    ·have HR2 := Lib.hid (V.rightTo_succ v n k HR.out g1 (fun h => absurd h g2))
     generalize v.at_ k = x at c1 l1 g1
     go_wp2_with fail
     go_round
     case rel => exact ⟨k + 1, by omega, by go_num, HR2⟩
     case measure => simp [intOf]; omega
   ·have HN := Lib.hid (V.rightTo_not v n hlt (.inl (by omega)))
    generalize v.at_ k = x at c1 l1 g1
    go_wp2_with fail
    go_ret
    exact ⟨ret_bool (by rw [V.rightB, HN.out]; simp), HO.out⟩
  ·obtain rfl : k = 16 := by omega
   by_cases n1 : 1 ≤ n
   ·by_cases n2 : n ≤ 16
    ·go_wp2_with fail
     go_ret
     exact ⟨ret_bool (by rw [V.rightB, HR.out]; simp [n1, n2]), HO.out⟩
    ·go_wp2_with fail
     go_ret
     exact ⟨ret_bool (by rw [V.rightB, HR.out]; simp; omega), HO.out⟩
   ·go_wp2_with fail
    go_ret
    exact ⟨ret_bool (by rw [V.rightB, HR.out]; simp; omega), HO.out⟩
theorem rsum_any (v : V) (w : World) : Calls Tryz.prog 31 #[.agg v.arr] w (Says (.int .u64 (V.sum v : Int)) w) := by
 have hb1 := fun (v : V) (w : World) => box24 v w
 go_enter Tryz.func31, Tryz.ntmps31
 go_wp2_with fail
 clear hb1
 have HO := Lib.hid (below_one w (.cells v.arr 24))
 have HV := Lib.hid (Blk.new w 24 v.arr)
 generalize w.alloc (.cells v.arr 24) = W at HO HV
 go_loop [3, 4] (fun s i => ∃ k m : Nat, k ≤ 16 ∧ i = .int .i64 (k : Int) ∧ s = .int .u64 (m : Int) ∧ m ≤ k * 4294967295 ∧ Hid (V.sumTo v k = m)) (fun _ i => 16 - (intOf i).toNat)
 case atStart => exact ⟨0, 0, by omega, rfl, rfl, by omega, Lib.hid rfl⟩
 case round =>
  obtain ⟨k, m, hk, rfl, rfl, hm, HR⟩ := hrel
  by_cases hlt : k < 16
  ·have c1 : W.cell? ⟨w.heap.size, k, none⟩ = some (.int .u32 (v.at_ k : Int)) := by rw [HV.out.cell, V.arr_at _ hlt]
   have l1 := v.lt k
   have HR2 : Hid (V.sumTo v (k + 1) = m + v.at_ k) := Lib.hid (by rw [V.sumTo, HR.out])
   generalize v.at_ k = x at c1 l1 HR2
   go_wp2_with fail
   go_round
   case rel => exact ⟨k + 1, m + x, by omega, by go_num, by go_num, by omega, HR2⟩
   case measure => simp [intOf]; omega
  ·obtain rfl : k = 16 := by omega
   go_wp2_with fail
   go_ret
   exact ⟨ret_int (by rw [V.sum, HR.out]), HO.out⟩
theorem kind_any (o : O) (w : World) : Calls Tryz.prog 122 #[.agg o.arr] w (Says (.bool o.kindB) w) := by
 have hb1 := fun w => box33 o w
 have HT := Lib.hid (ow_new w o)
 have c2 := oc2 (ow_new w o).one
 have c4 := oc4 (ow_new w o).one
 have c5 := oc5 (ow_new w o).one
 have hk := o.hk
 have hi := o.hi
 have hq := o.hq
 by_cases h1 : o.k = 1
 ·have HE : Hid (o.kindB = decide (1 ≤ o.q)) := Lib.hid (by unfold O.kindB; rw [Bool.eq_iff_iff]; simp <;> omega)
  rw [h1] at c2
  go_enter Tryz.func122, Tryz.ntmps122
  go_wp2_with fail
  go_ret
  exact ⟨ret_bool (by rw [HE.out]; first | rfl | (rw [Bool.eq_iff_iff]; simp <;> omega)), HT.out.old⟩
 by_cases h2 : o.k = 2
 ·have HE : Hid (o.kindB = true) := Lib.hid (by unfold O.kindB; simp <;> omega)
  rw [h2] at c2
  go_enter Tryz.func122, Tryz.ntmps122
  go_wp2_with fail
  go_ret
  exact ⟨ret_bool HE.out.symm, HT.out.old⟩
 by_cases h3 : o.k = 3
 ·have HE : Hid (o.kindB = decide (o.q = 0)) := Lib.hid (by unfold O.kindB; rw [Bool.eq_iff_iff]; simp <;> omega)
  rw [h3] at c2
  go_enter Tryz.func122, Tryz.ntmps122
  go_wp2_with fail
  go_ret
  exact ⟨ret_bool (by rw [HE.out]; first | rfl | (rw [Bool.eq_iff_iff]; simp <;> omega)), HT.out.old⟩
 by_cases h4 : o.k = 4
 ·by_cases hi0 : o.i = 0
  ·have HE : Hid (o.kindB = decide (o.q = 0)) := Lib.hid (by unfold O.kindB; rw [Bool.eq_iff_iff]; simp <;> omega)
   rw [h4] at c2
   rw [hi0] at c4
   go_enter Tryz.func122, Tryz.ntmps122
   go_wp2_with fail
   go_ret
   exact ⟨ret_bool (by rw [HE.out]; first | rfl | (rw [Bool.eq_iff_iff]; simp <;> omega)), HT.out.old⟩
  ·have HE : Hid (o.kindB = false) := Lib.hid (by unfold O.kindB; simp <;> omega)
   have gi : ((o.i : Int) == 0) = false := by simp <;> omega
   rw [h4] at c2
   go_enter Tryz.func122, Tryz.ntmps122
   go_wp2_with fail
   go_ret
   exact ⟨ret_bool HE.out.symm, HT.out.old⟩
 by_cases h5 : o.k = 5
 ·by_cases hi0 : o.i = 0
  ·have HE : Hid (o.kindB = decide (o.q = 0)) := Lib.hid (by unfold O.kindB; rw [Bool.eq_iff_iff]; simp <;> omega)
   rw [h5] at c2
   rw [hi0] at c4
   go_enter Tryz.func122, Tryz.ntmps122
   go_wp2_with fail
   go_ret
   exact ⟨ret_bool (by rw [HE.out]; first | rfl | (rw [Bool.eq_iff_iff]; simp <;> omega)), HT.out.old⟩
  ·have HE : Hid (o.kindB = false) := Lib.hid (by unfold O.kindB; simp <;> omega)
   have gi : ((o.i : Int) == 0) = false := by simp <;> omega
   rw [h5] at c2
   go_enter Tryz.func122, Tryz.ntmps122
   go_wp2_with fail
   go_ret
   exact ⟨ret_bool HE.out.symm, HT.out.old⟩
 have HE : Hid (o.kindB = false) := Lib.hid (by unfold O.kindB; simp <;> omega)
 have gk1 : ((o.k : Int) == 1) = false := by simp <;> omega
 have gk2 : ((o.k : Int) == 2) = false := by simp <;> omega
 have gk3 : ((o.k : Int) == 3) = false := by simp <;> omega
 have gk4 : ((o.k : Int) == 4) = false := by simp <;> omega
 have gk5 : ((o.k : Int) == 5) = false := by simp <;> omega
 go_enter Tryz.func122, Tryz.ntmps122
 go_wp2_with fail
 go_ret
 exact ⟨ret_bool HE.out.symm, HT.out.old⟩
theorem rkind_any (o : O) (w : World) : Calls Tryz.prog 131 #[.agg o.arr] w (Says (.bool o.kindB) w) := by
 have hb1 := fun w => box33 o w
 have HT := Lib.hid (ow_new w o)
 have c2 := oc2 (ow_new w o).one
 have c4 := oc4 (ow_new w o).one
 have c5 := oc5 (ow_new w o).one
 have hk := o.hk
 have hi := o.hi
 have hq := o.hq
 by_cases h1 : o.k = 1
 ·have HE : Hid (o.kindB = decide (1 ≤ o.q)) := Lib.hid (by unfold O.kindB; rw [Bool.eq_iff_iff]; simp <;> omega)
  rw [h1] at c2
  go_enter Tryz.func131, Tryz.ntmps131
  go_wp2_with fail
  go_ret
  exact ⟨ret_bool (by rw [HE.out]; first | rfl | (rw [Bool.eq_iff_iff]; simp <;> omega)), HT.out.old⟩
 by_cases h2 : o.k = 2
 ·have HE : Hid (o.kindB = true) := Lib.hid (by unfold O.kindB; simp <;> omega)
  rw [h2] at c2
  go_enter Tryz.func131, Tryz.ntmps131
  go_wp2_with fail
  go_ret
  exact ⟨ret_bool HE.out.symm, HT.out.old⟩
 by_cases h3 : o.k = 3
 ·have HE : Hid (o.kindB = decide (o.q = 0)) := Lib.hid (by unfold O.kindB; rw [Bool.eq_iff_iff]; simp <;> omega)
  rw [h3] at c2
  go_enter Tryz.func131, Tryz.ntmps131
  go_wp2_with fail
  go_ret
  exact ⟨ret_bool (by rw [HE.out]; first | rfl | (rw [Bool.eq_iff_iff]; simp <;> omega)), HT.out.old⟩
 by_cases h4 : o.k = 4
 ·by_cases hi0 : o.i = 0
  ·have HE : Hid (o.kindB = decide (o.q = 0)) := Lib.hid (by unfold O.kindB; rw [Bool.eq_iff_iff]; simp <;> omega)
   rw [h4] at c2
   rw [hi0] at c4
   go_enter Tryz.func131, Tryz.ntmps131
   go_wp2_with fail
   go_ret
   exact ⟨ret_bool (by rw [HE.out]; first | rfl | (rw [Bool.eq_iff_iff]; simp <;> omega)), HT.out.old⟩
  ·have HE : Hid (o.kindB = false) := Lib.hid (by unfold O.kindB; simp <;> omega)
   have gi : ((o.i : Int) == 0) = false := by simp <;> omega
   rw [h4] at c2
   go_enter Tryz.func131, Tryz.ntmps131
   go_wp2_with fail
   go_ret
   exact ⟨ret_bool HE.out.symm, HT.out.old⟩
 by_cases h5 : o.k = 5
 ·by_cases hi0 : o.i = 0
  ·have HE : Hid (o.kindB = decide (o.q = 0)) := Lib.hid (by unfold O.kindB; rw [Bool.eq_iff_iff]; simp <;> omega)
   rw [h5] at c2
   rw [hi0] at c4
   go_enter Tryz.func131, Tryz.ntmps131
   go_wp2_with fail
   go_ret
   exact ⟨ret_bool (by rw [HE.out]; first | rfl | (rw [Bool.eq_iff_iff]; simp <;> omega)), HT.out.old⟩
  ·have HE : Hid (o.kindB = false) := Lib.hid (by unfold O.kindB; simp <;> omega)
   have gi : ((o.i : Int) == 0) = false := by simp <;> omega
   rw [h5] at c2
   go_enter Tryz.func131, Tryz.ntmps131
   go_wp2_with fail
   go_ret
   exact ⟨ret_bool HE.out.symm, HT.out.old⟩
 have HE : Hid (o.kindB = false) := Lib.hid (by unfold O.kindB; simp <;> omega)
 have gk1 : ((o.k : Int) == 1) = false := by simp <;> omega
 have gk2 : ((o.k : Int) == 2) = false := by simp <;> omega
 have gk3 : ((o.k : Int) == 3) = false := by simp <;> omega
 have gk4 : ((o.k : Int) == 4) = false := by simp <;> omega
 have gk5 : ((o.k : Int) == 5) = false := by simp <;> omega
 go_enter Tryz.func131, Tryz.ntmps131
 go_wp2_with fail
 go_ret
 exact ⟨ret_bool HE.out.symm, HT.out.old⟩
theorem lays_any (o : O) (w : World) : Calls Tryz.prog 47 #[.agg o.arr] w (Says (.bool o.laysB) w) := by
 have hb1 := fun w => box33 o w
 have HT := Lib.hid (ow_new w o)
 have c2 := oc2 (ow_new w o).one
 have hk := o.hk
 by_cases h1 : o.k = 1
 ·have HE : Hid (o.laysB = true) := Lib.hid (by unfold O.laysB; simp <;> omega)
  rw [h1] at c2
  go_enter Tryz.func47, Tryz.ntmps47
  go_wp2_with fail
  go_ret
  exact ⟨ret_bool HE.out.symm, HT.out.old⟩
 by_cases h2 : o.k = 2
 ·have HE : Hid (o.laysB = true) := Lib.hid (by unfold O.laysB; simp <;> omega)
  rw [h2] at c2
  go_enter Tryz.func47, Tryz.ntmps47
  go_wp2_with fail
  go_ret
  exact ⟨ret_bool HE.out.symm, HT.out.old⟩
 by_cases h4 : o.k = 4
 ·have HE : Hid (o.laysB = true) := Lib.hid (by unfold O.laysB; simp <;> omega)
  rw [h4] at c2
  go_enter Tryz.func47, Tryz.ntmps47
  go_wp2_with fail
  go_ret
  exact ⟨ret_bool HE.out.symm, HT.out.old⟩
 have HE : Hid (o.laysB = false) := Lib.hid (by unfold O.laysB; simp <;> omega)
 have gk1 : ((o.k : Int) == 1) = false := by simp <;> omega
 have gk2 : ((o.k : Int) == 2) = false := by simp <;> omega
 have gk4 : ((o.k : Int) == 4) = false := by simp <;> omega
 go_enter Tryz.func47, Tryz.ntmps47
 go_wp2_with fail
 go_ret
 exact ⟨ret_bool HE.out.symm, HT.out.old⟩
theorem rcount_any (o : O) (w : World) : Calls Tryz.prog 33 #[.agg o.arr] w (Says (.int .u64 (o.count : Int)) w) := by
 have hb1 := fun w => box33 o w
 have HT := Lib.hid (ow_new w o)
 have HS := Lib.hid (fun w => rsum_any o.v w)
 have hl := V.sum_lt o.v
 have HC : Hid (o.count = V.sum o.v + 1) := Lib.hid rfl
 generalize V.sum o.v = x at HS hl HC
 go_enter Tryz.func33, Tryz.ntmps33
 go_wp2_with (refine wpList_run rfl (exec_ctx (p := o) rfl rfl HT.out.one) ?_)
 clear hb1
 generalize w.alloc (.cells o.arr 33) = W at HT
 refine (HS.out _).mono ?_
 rintro e w1 ⟨rfl, hb⟩
 have HT1 := Lib.hid (HT.out.below hb)
 clear hb
 go_wp2_with fail
 go_ret
 exact ⟨ret_int (by rw [HC.out]; omega), HT1.out.old⟩
theorem right_op (o : O) (n : Int) (w : World) (h0 : -9223372036854775808 ≤ n) (h1 : n ≤ 9223372036854775807) : Calls Tryz.prog 80 #[.agg o.arr, .int .i64 n] w (Says (.bool (o.rightB n)) w) := by
 obtain ⟨z, hz⟩ : ∃ z, V.zero = z := ⟨_, rfl⟩
 have HZ := Lib.hid hz
 clear hz
 have hb1 := fun w => box33 o w
 have HT := Lib.hid (ow_new w o)
 have HN := Lib.hid (fun w => next_any o.v o.r o.s w o.hr o.hs)
 have HR := Lib.hid (fun w => right_any o.v n w h0 h1)
 have HK := Lib.hid (fun w => kind_any o w)
 have HX := Lib.hid (O.next_zero o.v o.r o.s)
 have hr := o.hr
 have ht := o.ht
 generalize V.nextE o.v o.r o.s = E at HN HX
 generalize V.nextV o.v o.r o.s = u at HN
 go_enter Tryz.func80, Tryz.ntmps80
 go_wp2_with (first | (refine wpList_run rfl (exec_ctx (p := o) rfl rfl HT.out.one) ?_) | (refine wpList_run rfl (exec_dot (p := o) rfl rfl HT.out.one) ?_))
 clear hb1
 generalize w.alloc (.cells o.arr 33) = W at HT
 refine (HN.out _).mono ?_
 rintro e w1 ⟨rfl, hb⟩
 have HT1 := Lib.hid (HT.out.below hb)
 clear hb HT
 go_wp2_with (first | (refine wpList_alloc24 HZ.out rfl rfl ?_) | (refine wpList_stop rfl ?_))
 refine ⟨?_⟩
 refine wpList_store24 rfl rfl rfl rfl (Blk.new w1 24 z.arr) ?_
 have HT2 := Lib.hid (HT1.out.below (laid_old w1 z u))
 clear HT1
 generalize (w1.alloc (.cells z.arr 24)).setRow w1.heap.size u.arr = w2 at HT2
 by_cases hE : E = 0
 ·subst hE
  obtain ⟨hd1, hd2⟩ := HX.out.1 rfl
  have c0 := oc0 HT2.out.one
  by_cases hn : (o.r : Int) < n
  ·cases hv : V.rightB o.v n
   ·have HE : Hid (o.rightB n = false) := Lib.hid (O.right_no (fun h => by have := h.2.2.2.1; rw [hv] at this; cases this))
    rw [hv] at HR
    clear hv hd1 hd2
    go_wp2_with (refine wpList_runW (exec_ctx (p := o) rfl rfl HT2.out.one) (by kernel_rfl) ?_)
    refine (HR.out _).mono ?_
    rintro e w3 ⟨rfl, hb⟩
    have HT3 := Lib.hid (HT2.out.below hb)
    clear hb
    go_wp2_with fail
    go_ret
    exact ⟨ret_bool HE.out.symm, HT3.out.old⟩
   ·by_cases htk : o.t ≤ 1073741824
    ·have HE : Hid (o.rightB n = o.kindB) := Lib.hid (by
      rw [Bool.eq_iff_iff, O.right_iff]
      exact ⟨fun h => h.2.2.2.2.2, fun h => ⟨hd1, hd2, hn, hv, htk, h⟩⟩)
     rw [hv] at HR
     have htk' : (o.t : Int) ≤ 1073741824 := by omega
     clear hv hd1 hd2
     go_wp2_with (refine wpList_runW (exec_ctx (p := o) rfl rfl HT2.out.one) (by kernel_rfl) ?_)
     refine (HR.out _).mono ?_
     rintro e w3 ⟨rfl, hb⟩
     have HT3 := Lib.hid (HT2.out.below hb)
     have c6 := oc6 HT3.out.one
     clear hb
     go_wp2_with (refine wpList_runW (exec_load33 (p := o) rfl rfl HT3.out.one) (by kernel_rfl) ?_)
     refine (HK.out _).mono ?_
     rintro e w4 ⟨rfl, hb⟩
     have HT4 := Lib.hid (HT3.out.below hb)
     clear hb
     go_wp2_with fail
     go_ret
     exact ⟨ret_bool HE.out.symm, HT4.out.old⟩
    ·have HE : Hid (o.rightB n = false) := Lib.hid (O.right_no (fun h => htk h.2.2.2.2.1))
     rw [hv] at HR
     have htk' : (1073741824 : Int) < (o.t : Int) := by omega
     clear hv hd1 hd2
     go_wp2_with (refine wpList_runW (exec_ctx (p := o) rfl rfl HT2.out.one) (by kernel_rfl) ?_)
     refine (HR.out _).mono ?_
     rintro e w3 ⟨rfl, hb⟩
     have HT3 := Lib.hid (HT2.out.below hb)
     have c6 := oc6 HT3.out.one
     clear hb
     go_wp2_with fail
     go_ret
     exact ⟨ret_bool HE.out.symm, HT3.out.old⟩
  ·have HE : Hid (o.rightB n = false) := Lib.hid (O.right_no (fun h => hn h.2.2.1))
   have hn' : n ≤ (o.r : Int) := by omega
   go_wp2_with fail
   go_ret
   exact ⟨ret_bool HE.out.symm, HT2.out.old⟩
 ·have HE : Hid (o.rightB n = false) := Lib.hid (O.right_no (fun h => hE (HX.out.2 ⟨h.1, h.2.1⟩)))
  have g0 : ((E : Int) == 0) = false := by simp <;> omega
  go_wp2_with fail
  go_ret
  exact ⟨ret_bool HE.out.symm, HT2.out.old⟩
theorem rright_op (o : O) (n : Int) (w : World) (h0 : -9223372036854775808 ≤ n) (h1 : n ≤ 9223372036854775807) : Calls Tryz.prog 95 #[.agg o.arr, .int .i64 n] w (Says (.bool (o.rightB n)) w) := by
 have hb1 := fun w => box33 o w
 have HT := Lib.hid (ow_new w o)
 have HD := Lib.hid (fun w => rdot_any o.r o.s w o.hr o.hs)
 have HR := Lib.hid (fun w => rright_any o.v n w h0 h1)
 have HK := Lib.hid (fun w => rkind_any o w)
 have c0 := oc0 (ow_new w o).one
 have hr := o.hr
 have hs := o.hs
 by_cases hn1 : n < 1
 ·have HE : Hid (o.rightB n = false) := Lib.hid (O.right_no (fun h => by have := h.2.2.1; omega))
  go_enter Tryz.func95, Tryz.ntmps95
  go_wp2_with fail
  go_ret
  exact ⟨ret_bool HE.out.symm, HT.out.old⟩
 have hn1' : 1 ≤ n := by omega
 by_cases hn2 : 16 < n
 ·have HE : Hid (o.rightB n = false) := Lib.hid (O.right_no (fun h => by
   have := h.2.2.2.1
   simp only [V.rightB, Bool.and_eq_true, decide_eq_true_eq] at this
   omega))
  clear hn1
  go_enter Tryz.func95, Tryz.ntmps95
  go_wp2_with fail
  go_ret
  exact ⟨ret_bool HE.out.symm, HT.out.old⟩
 have hn2' : n ≤ 16 := by omega
 clear hn1 hn2
 have gn1 : decide (n < 1) = false := by simp; omega
 have gn2 : decide (16 < n) = false := by simp; omega
 by_cases hn : (o.r : Int) < n
 ·have gn3 : decide (n ≤ (o.r : Int)) = false := by simp; omega
  go_enter Tryz.func95, Tryz.ntmps95
  go_wp2_with (refine wpList_runW (exec_dot (p := o) rfl rfl HT.out.one) (by kernel_rfl) ?_)
  clear hb1 c0
  generalize w.alloc (.cells o.arr 33) = W at HT
  cases hd : V.dotB o.r o.s
  ·have HE : Hid (o.rightB n = false) := Lib.hid (O.right_no (fun h => by have := h.1; rw [hd] at this; cases this))
   rw [hd] at HD
   clear hd
   refine (HD.out _).mono ?_
   rintro e w1 ⟨rfl, hb⟩
   have HT1 := Lib.hid (HT.out.below hb)
   clear hb
   go_wp2_with fail
   go_ret
   exact ⟨ret_bool HE.out.symm, HT1.out.old⟩
  ·have HD1 := Lib.hid hd
   obtain ⟨hr1, hs1, hs2⟩ := dotB_lt hd
   rw [hd] at HD
   clear hd
   refine (HD.out _).mono ?_
   rintro e w1 ⟨rfl, hb⟩
   have HT1 := Lib.hid (HT.out.below hb)
   clear hb HT
   go_wp2_with (refine wpList_runW (exec_ctx (p := o) rfl rfl HT1.out.one) (by kernel_rfl) ?_)
   cases hv : V.rightB o.v n
   ·have HE : Hid (o.rightB n = false) := Lib.hid (O.right_no (fun h => by have := h.2.2.2.1; rw [hv] at this; cases this))
    rw [hv] at HR
    clear hv
    refine (HR.out _).mono ?_
    rintro e w2 ⟨rfl, hb⟩
    have HT2 := Lib.hid (HT1.out.below hb)
    clear hb
    go_wp2_with fail
    go_ret
    exact ⟨ret_bool HE.out.symm, HT2.out.old⟩
   ·have HV := Lib.hid hv
    rw [hv] at HR
    clear hv
    refine (HR.out _).mono ?_
    rintro e w2 ⟨rfl, hb⟩
    have HT2 := Lib.hid (HT1.out.below hb)
    clear hb HT1
    go_wp2_with fail
    by_cases hq : o.v.at_ o.r + 1 = o.s
    ·by_cases htk : o.t ≤ 1073741824
     ·have HE : Hid (o.rightB n = o.kindB) := Lib.hid (by
       rw [Bool.eq_iff_iff, O.right_iff]
       exact ⟨fun h => h.2.2.2.2.2, fun h => ⟨HD1.out, hq, hn, HV.out, htk, h⟩⟩)
      refine wp_region_held_drew (S := fun w' => Ow w w' o) (by kernel_rfl) HT2.out.drew (fun hS => ?_)
      refine held_tk 0 32 (.pointer (some ⟨w.heap.size,0,none⟩)) rfl rfl (by kernel_rfl) (fun _ _ _ h=>h) (fun _ _=>(by kernel_rfl)) hS ?_;simp only [Act.put,ap1,ap2,ap3]
      refine held_tk 1 33 (.pointer (some ⟨w.heap.size,0,none⟩)) rfl rfl (by kernel_rfl) (fun _ _ _ h=>h) (fun _ _=>(by kernel_rfl)) hS ?_;simp only [Act.put,ap1,ap2,ap3]
      refine held_tk 2 34 (.int .u8 (o.r : Int)) rfl rfl (by kernel_rfl) (fun _ _ _ h=>h) (fun _ h=>exec_cell rfl rfl (load_cell (by kernel_rfl) (oc0 h.one))) hS ?_;simp only [Act.put,ap1,ap2,ap3]
      refine held_tk 3 35 (.pointer (some ⟨w.heap.size,7,none⟩)) rfl rfl (by kernel_rfl) (fun _ _ _ h=>h) (fun _ _=>(by kernel_rfl)) hS ?_;simp only [Act.put,ap1,ap2,ap3]
      refine held_tk 4 36 (.pointer (some ⟨w.heap.size,7 + o.r,none⟩)) rfl rfl (by kernel_rfl) (fun _ _ _ h=>h) (fun _ _=>exec_index24 rfl rfl rfl hr1) hS ?_;simp only [Act.put,ap1,ap2,ap3]
      refine held_tk 5 37 (.int .u32 (o.v.at_ o.r : Int)) rfl rfl (by kernel_rfl) (fun _ _ _ h=>h) (fun _ h=>exec_cell rfl rfl (load_cell (by kernel_rfl) (oc7 h.one hr1))) hS ?_;simp only [Act.put,ap1,ap2,ap3]
      refine held_tk 6 38 (.pointer (some ⟨w.heap.size,0,none⟩)) rfl rfl (by kernel_rfl) (fun _ _ _ h=>h) (fun _ _=>(by kernel_rfl)) hS ?_;simp only [Act.put,ap1,ap2,ap3]
      refine held_tk 7 39 (.pointer (some ⟨w.heap.size,1,none⟩)) rfl rfl (by kernel_rfl) (fun _ _ _ h=>h) (fun _ _=>(by kernel_rfl)) hS ?_;simp only [Act.put,ap1,ap2,ap3]
      refine held_tk 8 40 (.int .u32 (o.s : Int)) rfl rfl (by kernel_rfl) (fun _ _ _ h=>h) (fun _ h=>exec_cell rfl rfl (load_cell (by kernel_rfl) (oc1 h.one))) hS ?_;simp only [Act.put,ap1,ap2,ap3]
      refine held_tk 9 41 (.int .u32 ((o.s - 1 : Nat) : Int)) rfl rfl (by kernel_rfl) (fun _ _ _ h=>h) (fun _ _=>exec_pred rfl rfl rfl hs (by omega)) hS ?_;simp only [Act.put,ap1,ap2,ap3]
      refine held_tk 10 42 (.bool true) rfl rfl (by kernel_rfl) (fun _ _ _ h=>h) (fun _ _=>exec_eqlI trivial rfl rfl rfl (pred_eq (by omega) hq)) hS ?_;simp only [Act.put,ap1,ap2,ap3]
      refine held_tk 11 43 (.bool true) rfl rfl (by kernel_rfl) (fun _ _ _ h=>h) (fun _ _=>rfl) hS ?_;simp only [Act.put,ap1,ap2,ap3]
      refine held_tk 12 44 (.pointer (some ⟨w.heap.size,6,none⟩)) rfl rfl (by kernel_rfl) (fun _ _ _ h=>h) (fun _ _=>(by kernel_rfl)) hS ?_;simp only [Act.put,ap1,ap2,ap3]
      refine held_tk 13 45 (.int .u32 (o.t : Int)) rfl rfl (by kernel_rfl) (fun _ _ _ h=>h) (fun _ h=>exec_cell rfl rfl (load_cell (by kernel_rfl) (oc6 h.one))) hS ?_;simp only [Act.put,ap1,ap2,ap3]
      refine held_tk 14 46 (.bool true) rfl rfl (by kernel_rfl) (fun _ _ _ h=>h) (fun _ _=>exec_leqI rfl rfl rfl (tick_le htk)) hS ?_;simp only [Act.put,ap1,ap2,ap3]
      refine held_tk 15 47 (.bool true) rfl rfl (by kernel_rfl) (fun _ _ _ h=>h) (fun _ _=>rfl) hS ?_;simp only [Act.put,ap1,ap2,ap3]
      refine held_tk 16 48 (.bool true) rfl rfl (by kernel_rfl) (fun _ _ _ h=>h) (fun _ _=>rfl) hS ?_;simp only [Act.put,ap1,ap2,ap3]
      refine held_tk 17 49 (.agg o.arr) rfl rfl (by kernel_rfl) (fun _ _ _ h=>h) (fun _ h=>exec_load33 (p:=o) rfl rfl h.one) hS ?_;simp only [Act.put,ap1,ap2,ap3]
      refine held_call 18 50 131 #[(.agg o.arr)] (.bool o.kindB) rfl (by kernel_rfl) rfl (by kernel_rfl) (by kernel_rfl) (HK.out _) (fun _ h hb=>h.below hb) hS (fun w118 hS=>?_)
      simp only [Act.put, ap1, ap2, ap3]
      refine held_tk 19 51 (.bool o.kindB) rfl rfl (by kernel_rfl) (fun _ _ _ h=>h) (fun _ _=>rfl) hS ?_;simp only [Act.put,ap1,ap2,ap3]
      refine held_tk 20 4 (.bool o.kindB) rfl rfl (by kernel_rfl) (fun _ _ _ h=>h) (fun _ _=>rfl) hS ?_;simp only [Act.put,ap1,ap2,ap3]
      refine wpAnyH_done (by kernel_rfl) ?_ _
      go_wp2_with fail
      go_ret
      exact ⟨ret_bool HE.out.symm, hS.old⟩
     ·have HE : Hid (o.rightB n = false) := Lib.hid (O.right_no (fun h => htk h.2.2.2.2.1))
      refine wp_region_held_drew (S := fun w' => Ow w w' o) (by kernel_rfl) HT2.out.drew (fun hS => ?_)
      refine held_tk 0 32 (.pointer (some ⟨w.heap.size,0,none⟩)) rfl rfl (by kernel_rfl) (fun _ _ _ h=>h) (fun _ _=>(by kernel_rfl)) hS ?_;simp only [Act.put,ap1,ap2,ap3]
      refine held_tk 1 33 (.pointer (some ⟨w.heap.size,0,none⟩)) rfl rfl (by kernel_rfl) (fun _ _ _ h=>h) (fun _ _=>(by kernel_rfl)) hS ?_;simp only [Act.put,ap1,ap2,ap3]
      refine held_tk 2 34 (.int .u8 (o.r : Int)) rfl rfl (by kernel_rfl) (fun _ _ _ h=>h) (fun _ h=>exec_cell rfl rfl (load_cell (by kernel_rfl) (oc0 h.one))) hS ?_;simp only [Act.put,ap1,ap2,ap3]
      refine held_tk 3 35 (.pointer (some ⟨w.heap.size,7,none⟩)) rfl rfl (by kernel_rfl) (fun _ _ _ h=>h) (fun _ _=>(by kernel_rfl)) hS ?_;simp only [Act.put,ap1,ap2,ap3]
      refine held_tk 4 36 (.pointer (some ⟨w.heap.size,7 + o.r,none⟩)) rfl rfl (by kernel_rfl) (fun _ _ _ h=>h) (fun _ _=>exec_index24 rfl rfl rfl hr1) hS ?_;simp only [Act.put,ap1,ap2,ap3]
      refine held_tk 5 37 (.int .u32 (o.v.at_ o.r : Int)) rfl rfl (by kernel_rfl) (fun _ _ _ h=>h) (fun _ h=>exec_cell rfl rfl (load_cell (by kernel_rfl) (oc7 h.one hr1))) hS ?_;simp only [Act.put,ap1,ap2,ap3]
      refine held_tk 6 38 (.pointer (some ⟨w.heap.size,0,none⟩)) rfl rfl (by kernel_rfl) (fun _ _ _ h=>h) (fun _ _=>(by kernel_rfl)) hS ?_;simp only [Act.put,ap1,ap2,ap3]
      refine held_tk 7 39 (.pointer (some ⟨w.heap.size,1,none⟩)) rfl rfl (by kernel_rfl) (fun _ _ _ h=>h) (fun _ _=>(by kernel_rfl)) hS ?_;simp only [Act.put,ap1,ap2,ap3]
      refine held_tk 8 40 (.int .u32 (o.s : Int)) rfl rfl (by kernel_rfl) (fun _ _ _ h=>h) (fun _ h=>exec_cell rfl rfl (load_cell (by kernel_rfl) (oc1 h.one))) hS ?_;simp only [Act.put,ap1,ap2,ap3]
      refine held_tk 9 41 (.int .u32 ((o.s - 1 : Nat) : Int)) rfl rfl (by kernel_rfl) (fun _ _ _ h=>h) (fun _ _=>exec_pred rfl rfl rfl hs (by omega)) hS ?_;simp only [Act.put,ap1,ap2,ap3]
      refine held_tk 10 42 (.bool true) rfl rfl (by kernel_rfl) (fun _ _ _ h=>h) (fun _ _=>exec_eqlI trivial rfl rfl rfl (pred_eq (by omega) hq)) hS ?_;simp only [Act.put,ap1,ap2,ap3]
      refine held_tk 11 43 (.bool true) rfl rfl (by kernel_rfl) (fun _ _ _ h=>h) (fun _ _=>rfl) hS ?_;simp only [Act.put,ap1,ap2,ap3]
      refine held_tk 12 44 (.pointer (some ⟨w.heap.size,6,none⟩)) rfl rfl (by kernel_rfl) (fun _ _ _ h=>h) (fun _ _=>(by kernel_rfl)) hS ?_;simp only [Act.put,ap1,ap2,ap3]
      refine held_tk 13 45 (.int .u32 (o.t : Int)) rfl rfl (by kernel_rfl) (fun _ _ _ h=>h) (fun _ h=>exec_cell rfl rfl (load_cell (by kernel_rfl) (oc6 h.one))) hS ?_;simp only [Act.put,ap1,ap2,ap3]
      refine held_tk 14 46 (.bool false) rfl rfl (by kernel_rfl) (fun _ _ _ h=>h) (fun _ _=>exec_leqI rfl rfl rfl (tick_gt htk)) hS ?_;simp only [Act.put,ap1,ap2,ap3]
      refine held_tk 15 47 (.bool false) rfl rfl (by kernel_rfl) (fun _ _ _ h=>h) (fun _ _=>rfl) hS ?_;simp only [Act.put,ap1,ap2,ap3]
      refine held_tk 16 48 (.bool false) rfl rfl (by kernel_rfl) (fun _ _ _ h=>h) (fun _ _=>rfl) hS ?_;simp only [Act.put,ap1,ap2,ap3]
      refine held_sk 17 49 rfl rfl (by kernel_rfl) (fun _ _ _ h=>h) hS ?_;simp only [Act.put,ap1,ap2,ap3]
      refine held_sk 18 50 rfl rfl (by kernel_rfl) (fun _ _ _ h=>h) hS ?_;simp only [Act.put,ap1,ap2,ap3]
      refine held_tk 19 51 (.bool false) rfl rfl (by kernel_rfl) (fun _ _ _ h=>h) (fun _ _=>rfl) hS ?_;simp only [Act.put,ap1,ap2,ap3]
      refine held_tk 20 4 (.bool false) rfl rfl (by kernel_rfl) (fun _ _ _ h=>h) (fun _ _=>rfl) hS ?_;simp only [Act.put,ap1,ap2,ap3]
      refine wpAnyH_done (by kernel_rfl) ?_ _
      go_wp2_with fail
      go_ret
      exact ⟨ret_bool HE.out.symm, hS.old⟩
    ·have HE : Hid (o.rightB n = false) := Lib.hid (O.right_no (fun h => hq h.2.1))
     refine wp_region_held_drew (S := fun w' => Ow w w' o) (by kernel_rfl) HT2.out.drew (fun hS => ?_)
     refine held_tk 0 32 (.pointer (some ⟨w.heap.size,0,none⟩)) rfl rfl (by kernel_rfl) (fun _ _ _ h=>h) (fun _ _=>(by kernel_rfl)) hS ?_;simp only [Act.put,ap1,ap2,ap3]
     refine held_tk 1 33 (.pointer (some ⟨w.heap.size,0,none⟩)) rfl rfl (by kernel_rfl) (fun _ _ _ h=>h) (fun _ _=>(by kernel_rfl)) hS ?_;simp only [Act.put,ap1,ap2,ap3]
     refine held_tk 2 34 (.int .u8 (o.r : Int)) rfl rfl (by kernel_rfl) (fun _ _ _ h=>h) (fun _ h=>exec_cell rfl rfl (load_cell (by kernel_rfl) (oc0 h.one))) hS ?_;simp only [Act.put,ap1,ap2,ap3]
     refine held_tk 3 35 (.pointer (some ⟨w.heap.size,7,none⟩)) rfl rfl (by kernel_rfl) (fun _ _ _ h=>h) (fun _ _=>(by kernel_rfl)) hS ?_;simp only [Act.put,ap1,ap2,ap3]
     refine held_tk 4 36 (.pointer (some ⟨w.heap.size,7 + o.r,none⟩)) rfl rfl (by kernel_rfl) (fun _ _ _ h=>h) (fun _ _=>exec_index24 rfl rfl rfl hr1) hS ?_;simp only [Act.put,ap1,ap2,ap3]
     refine held_tk 5 37 (.int .u32 (o.v.at_ o.r : Int)) rfl rfl (by kernel_rfl) (fun _ _ _ h=>h) (fun _ h=>exec_cell rfl rfl (load_cell (by kernel_rfl) (oc7 h.one hr1))) hS ?_;simp only [Act.put,ap1,ap2,ap3]
     refine held_tk 6 38 (.pointer (some ⟨w.heap.size,0,none⟩)) rfl rfl (by kernel_rfl) (fun _ _ _ h=>h) (fun _ _=>(by kernel_rfl)) hS ?_;simp only [Act.put,ap1,ap2,ap3]
     refine held_tk 7 39 (.pointer (some ⟨w.heap.size,1,none⟩)) rfl rfl (by kernel_rfl) (fun _ _ _ h=>h) (fun _ _=>(by kernel_rfl)) hS ?_;simp only [Act.put,ap1,ap2,ap3]
     refine held_tk 8 40 (.int .u32 (o.s : Int)) rfl rfl (by kernel_rfl) (fun _ _ _ h=>h) (fun _ h=>exec_cell rfl rfl (load_cell (by kernel_rfl) (oc1 h.one))) hS ?_;simp only [Act.put,ap1,ap2,ap3]
     refine held_tk 9 41 (.int .u32 ((o.s - 1 : Nat) : Int)) rfl rfl (by kernel_rfl) (fun _ _ _ h=>h) (fun _ _=>exec_pred rfl rfl rfl hs (by omega)) hS ?_;simp only [Act.put,ap1,ap2,ap3]
     refine held_tk 10 42 (.bool false) rfl rfl (by kernel_rfl) (fun _ _ _ h=>h) (fun _ _=>exec_eqlI trivial rfl rfl rfl (pred_ne (by omega) hq)) hS ?_;simp only [Act.put,ap1,ap2,ap3]
     refine held_tk 11 43 (.bool false) rfl rfl (by kernel_rfl) (fun _ _ _ h=>h) (fun _ _=>rfl) hS ?_;simp only [Act.put,ap1,ap2,ap3]
     refine held_sk 12 44 rfl rfl (by kernel_rfl) (fun _ _ _ h=>h) hS ?_;simp only [Act.put,ap1,ap2,ap3]
     refine held_sk 13 45 rfl rfl (by kernel_rfl) (fun _ _ _ h=>h) hS ?_;simp only [Act.put,ap1,ap2,ap3]
     refine held_sk 14 46 rfl rfl (by kernel_rfl) (fun _ _ _ h=>h) hS ?_;simp only [Act.put,ap1,ap2,ap3]
     refine held_tk 15 47 (.bool false) rfl rfl (by kernel_rfl) (fun _ _ _ h=>h) (fun _ _=>rfl) hS ?_;simp only [Act.put,ap1,ap2,ap3]
     refine held_tk 16 48 (.bool false) rfl rfl (by kernel_rfl) (fun _ _ _ h=>h) (fun _ _=>rfl) hS ?_;simp only [Act.put,ap1,ap2,ap3]
     refine held_sk 17 49 rfl rfl (by kernel_rfl) (fun _ _ _ h=>h) hS ?_;simp only [Act.put,ap1,ap2,ap3]
     refine held_sk 18 50 rfl rfl (by kernel_rfl) (fun _ _ _ h=>h) hS ?_;simp only [Act.put,ap1,ap2,ap3]
     refine held_tk 19 51 (.bool false) rfl rfl (by kernel_rfl) (fun _ _ _ h=>h) (fun _ _=>rfl) hS ?_;simp only [Act.put,ap1,ap2,ap3]
     refine held_tk 20 4 (.bool false) rfl rfl (by kernel_rfl) (fun _ _ _ h=>h) (fun _ _=>rfl) hS ?_;simp only [Act.put,ap1,ap2,ap3]
     refine wpAnyH_done (by kernel_rfl) ?_ _
     go_wp2_with fail
     go_ret
     exact ⟨ret_bool HE.out.symm, hS.old⟩
 ·have HE : Hid (o.rightB n = false) := Lib.hid (O.right_no (fun h => hn h.2.2.1))
  have hn' : n ≤ (o.r : Int) := by omega
  clear hn
  go_enter Tryz.func95, Tryz.ntmps95
  go_wp2_with fail
  go_ret
  exact ⟨ret_bool HE.out.symm, HT.out.old⟩
theorem rends_any (o p : O) (w : World) : Calls Tryz.prog 45 #[.agg o.arr, .agg p.arr] w (Says (.bool (O.endsB o p)) w) := by
 have hb1 := fun (o : O) w => box33 o w
 have HT := Lib.hid (ow2_new w o p)
 have HM := Lib.hid (fun w => lays_any p w)
 have HH := Lib.hid (fun w => rhas_any o.v p.r p.s w p.hr p.hs)
 have HL : Hid (O.endsB o p = decide (p.laysB = true ∧ o.c = p.c ∧ V.hasB o.v p.r p.s = true ∧ (o.k = 5 ∨ ((o.k = 3 ∨ o.k = 2) ∧ p.k ≠ 4 ∧ o.i = p.i)))) := Lib.hid rfl
 have b1 := o.hk
 have b2 := p.hk
 have b3 := o.hc
 have b4 := p.hc
 have b5 := o.hi
 have b6 := p.hi
 go_enter Tryz.func45, Tryz.ntmps45
 go_wp2_with (refine wpList_run rfl (exec_load33 (p := p) rfl rfl HT.out.two) ?_)
 clear hb1
 generalize (w.alloc (.cells o.arr 33)).alloc (.cells p.arr 33) = W at HT
 cases hm : p.laysB
 ·have HE : Hid (O.endsB o p = false) := Lib.hid (by rw [HL.out, hm]; simp)
  rw [hm] at HM
  clear hm
  refine (HM.out _).mono ?_
  rintro e w1 ⟨rfl, hb⟩
  have HT2 := Lib.hid (HT.out.below hb)
  clear hb
  go_wp2_with fail
  go_ret
  exact ⟨ret_bool HE.out.symm, HT2.out.old⟩
 rw [hm] at HM HL
 clear hm
 refine (HM.out _).mono ?_
 rintro e w1 ⟨rfl, hb⟩
 have HT1 := Lib.hid (HT.out.below hb)
 clear hb HT
 have c3 := oc3 HT1.out.one
 have d3 := oc3 HT1.out.two
 by_cases hc : o.c = p.c
 ·have gc : ((o.c : Int) != (p.c : Int)) = false := by simp <;> omega
  go_wp2_with (first | (refine wpList_runW (exec_ctx (p := o) rfl rfl HT1.out.one) (by kernel_rfl) ?_) | (refine wpList_runW (exec_dot (p := p) rfl rfl HT1.out.two) (by kernel_rfl) ?_))
  clear c3 d3
  cases hh : V.hasB o.v p.r p.s
  ·have HE : Hid (O.endsB o p = false) := Lib.hid (by rw [HL.out, hh]; simp)
   rw [hh] at HH
   clear hh
   refine (HH.out _).mono ?_
   rintro e w2 ⟨rfl, hb⟩
   have HT2 := Lib.hid (HT1.out.below hb)
   clear hb
   go_wp2_with fail
   go_ret
   exact ⟨ret_bool HE.out.symm, HT2.out.old⟩
  ·have HL2 : Hid (O.endsB o p = decide (o.k = 5 ∨ ((o.k = 3 ∨ o.k = 2) ∧ p.k ≠ 4 ∧ o.i = p.i))) := Lib.hid (by rw [HL.out, hh]; simp [hc])
   rw [hh] at HH
   clear hh HL
   refine (HH.out _).mono ?_
   rintro e w2 ⟨rfl, hb⟩
   have HT2 := Lib.hid (HT1.out.below hb)
   clear hb HT1
   have c2 := oc2 HT2.out.one
   have d2 := oc2 HT2.out.two
   have c4 := oc4 HT2.out.one
   have d4 := oc4 HT2.out.two
   by_cases k5 : o.k = 5
   ·rw [k5] at c2
    have HE : Hid (O.endsB o p = true) := Lib.hid (by rw [HL2.out]; simp <;> omega)
    go_wp2_with fail
    go_ret
    exact ⟨ret_bool HE.out.symm, HT2.out.old⟩
   by_cases k3 : o.k = 3
   ·rw [k3] at c2
    by_cases e4 : p.k = 4
    ·have HE : Hid (O.endsB o p = false) := Lib.hid (by rw [HL2.out]; simp <;> omega)
     rw [e4] at d2
     go_wp2_with fail
     go_ret
     exact ⟨ret_bool HE.out.symm, HT2.out.old⟩
    ·have HE : Hid (O.endsB o p = decide (o.i = p.i)) := Lib.hid (by rw [HL2.out, Bool.eq_iff_iff]; simp <;> omega)
     have g4 : ((p.k : Int) != 4) = true := by simp <;> omega
     go_wp2_with fail
     go_ret
     exact ⟨ret_bool (by rw [HE.out, Bool.eq_iff_iff]; simp <;> omega), HT2.out.old⟩
   by_cases k2 : o.k = 2
   ·rw [k2] at c2
    by_cases e4 : p.k = 4
    ·have HE : Hid (O.endsB o p = false) := Lib.hid (by rw [HL2.out]; simp <;> omega)
     rw [e4] at d2
     go_wp2_with fail
     go_ret
     exact ⟨ret_bool HE.out.symm, HT2.out.old⟩
    ·have HE : Hid (O.endsB o p = decide (o.i = p.i)) := Lib.hid (by rw [HL2.out, Bool.eq_iff_iff]; simp <;> omega)
     have g4 : ((p.k : Int) != 4) = true := by simp <;> omega
     go_wp2_with fail
     go_ret
     exact ⟨ret_bool (by rw [HE.out, Bool.eq_iff_iff]; simp <;> omega), HT2.out.old⟩
   have HE : Hid (O.endsB o p = false) := Lib.hid (by rw [HL2.out]; simp <;> omega)
   have g5 : ((o.k : Int) == 5) = false := by simp <;> omega
   have g3 : ((o.k : Int) == 3) = false := by simp <;> omega
   have g2 : ((o.k : Int) == 2) = false := by simp <;> omega
   go_wp2_with fail
   go_ret
   exact ⟨ret_bool HE.out.symm, HT2.out.old⟩
 ·have HE : Hid (O.endsB o p = false) := Lib.hid (by rw [HL.out]; simp [hc])
  have gc : ((o.c : Int) != (p.c : Int)) = true := by simp <;> omega
  go_wp2_with fail
  go_ret
  exact ⟨ret_bool HE.out.symm, HT1.out.old⟩
theorem ready_any (v : V) (o : O) (w : World) : Calls Tryz.prog 40 #[.agg v.arr, .agg o.arr] w (Says (.int .i64 (O.readyE v o : Int)) w) := by
 have hb1 := fun (o : O) w => box33 o w
 have hb2 := fun (v : V) w => box24 v w
 have HT := Lib.hid (vo_new w v o)
 have HR := Lib.hid (fun w => right_op o 16 w (by omega) (by omega))
 have HH := Lib.hid (fun w => has_any v o.r o.s w o.hr o.hs)
 have HB := Lib.hid (fun w => below_any o.v v w)
 have HL : Hid (O.readyE v o = if o.rightB 16 = true then (if V.hasB v o.r o.s = true then 8 else if V.belowB o.v v = true then 0 else 9) else 2) := Lib.hid rfl
 go_enter Tryz.func40, Tryz.ntmps40
 go_wp2_with (refine wpList_run rfl (exec_load33 (p := o) rfl rfl HT.out.two) ?_)
 clear hb1 hb2
 generalize (w.alloc (.cells v.arr 24)).alloc (.cells o.arr 33) = W at HT
 cases hr : o.rightB 16
 ·have HE : Hid (O.readyE v o = 2) := Lib.hid (by rw [HL.out, hr]; simp)
  rw [hr] at HR
  clear hr
  refine (HR.out _).mono ?_
  rintro e w1 ⟨rfl, hb⟩
  have HT1 := Lib.hid (HT.out.below hb)
  clear hb
  go_wp2_with fail
  go_ret
  exact ⟨by rw [HE.out]; rfl, HT1.out.old⟩
 rw [hr] at HR HL
 clear hr
 refine (HR.out _).mono ?_
 rintro e w1 ⟨rfl, hb⟩
 have HT1 := Lib.hid (HT.out.below hb)
 clear hb HT
 go_wp2_with (first | (refine wpList_run rfl (exec_load24 rfl rfl HT1.out.vec) ?_) | (refine wpList_run rfl (exec_dot (p := o) rfl rfl HT1.out.two) ?_))
 cases hh : V.hasB v o.r o.s
 ·rw [hh] at HH HL
  clear hh
  refine (HH.out _).mono ?_
  rintro e w2 ⟨rfl, hb⟩
  have HT2 := Lib.hid (HT1.out.below hb)
  clear hb HT1
  go_wp2_with (first | (refine wpList_run rfl (exec_load24 rfl rfl HT2.out.vec) ?_) | (refine wpList_run rfl (exec_ctx (p := o) rfl rfl HT2.out.two) ?_))
  cases hl : V.belowB o.v v
  ·have HE : Hid (O.readyE v o = 9) := Lib.hid (by rw [HL.out, hl]; simp)
   rw [hl] at HB
   clear hl
   refine (HB.out _).mono ?_
   rintro e w3 ⟨rfl, hb⟩
   have HT3 := Lib.hid (HT2.out.below hb)
   clear hb
   go_wp2_with fail
   go_ret
   exact ⟨by rw [HE.out]; rfl, HT3.out.old⟩
  ·have HE : Hid (O.readyE v o = 0) := Lib.hid (by rw [HL.out, hl]; simp)
   rw [hl] at HB
   clear hl
   refine (HB.out _).mono ?_
   rintro e w3 ⟨rfl, hb⟩
   have HT3 := Lib.hid (HT2.out.below hb)
   clear hb
   go_wp2_with fail
   go_ret
   exact ⟨by rw [HE.out]; rfl, HT3.out.old⟩
 ·have HE : Hid (O.readyE v o = 8) := Lib.hid (by rw [HL.out, hh]; simp)
  rw [hh] at HH
  clear hh
  refine (HH.out _).mono ?_
  rintro e w2 ⟨rfl, hb⟩
  have HT2 := Lib.hid (HT1.out.below hb)
  clear hb
  go_wp2_with fail
  go_ret
  exact ⟨by rw [HE.out]; rfl, HT2.out.old⟩
theorem rready_any (v : V) (o : O) (w : World) : Calls Tryz.prog 44 #[.agg v.arr, .agg o.arr] w (Says (.int .i64 (O.readyE v o : Int)) w) := by
 have hb1 := fun (o : O) w => box33 o w
 have hb2 := fun (v : V) w => box24 v w
 have HT := Lib.hid (vo_new w v o)
 have HR := Lib.hid (fun w => rright_op o 16 w (by omega) (by omega))
 have HH := Lib.hid (fun w => rhas_any v o.r o.s w o.hr o.hs)
 have HB := Lib.hid (fun w => rbelow_any o.v v w)
 have HL : Hid (O.readyE v o = if o.rightB 16 = true then (if V.hasB v o.r o.s = true then 8 else if V.belowB o.v v = true then 0 else 9) else 2) := Lib.hid rfl
 go_enter Tryz.func44, Tryz.ntmps44
 go_wp2_with (refine wpList_run rfl (exec_load33 (p := o) rfl rfl HT.out.two) ?_)
 clear hb1 hb2
 generalize (w.alloc (.cells v.arr 24)).alloc (.cells o.arr 33) = W at HT
 cases hr : o.rightB 16
 ·have HE : Hid (O.readyE v o = 2) := Lib.hid (by rw [HL.out, hr]; simp)
  rw [hr] at HR
  clear hr
  refine (HR.out _).mono ?_
  rintro e w1 ⟨rfl, hb⟩
  have HT1 := Lib.hid (HT.out.below hb)
  clear hb
  go_wp2_with fail
  go_ret
  exact ⟨by rw [HE.out]; rfl, HT1.out.old⟩
 rw [hr] at HR HL
 clear hr
 refine (HR.out _).mono ?_
 rintro e w1 ⟨rfl, hb⟩
 have HT1 := Lib.hid (HT.out.below hb)
 clear hb HT
 go_wp2_with (first | (refine wpList_run rfl (exec_load24 rfl rfl HT1.out.vec) ?_) | (refine wpList_run rfl (exec_dot (p := o) rfl rfl HT1.out.two) ?_))
 cases hh : V.hasB v o.r o.s
 ·rw [hh] at HH HL
  clear hh
  refine (HH.out _).mono ?_
  rintro e w2 ⟨rfl, hb⟩
  have HT2 := Lib.hid (HT1.out.below hb)
  clear hb HT1
  go_wp2_with (first | (refine wpList_run rfl (exec_load24 rfl rfl HT2.out.vec) ?_) | (refine wpList_run rfl (exec_ctx (p := o) rfl rfl HT2.out.two) ?_))
  cases hl : V.belowB o.v v
  ·have HE : Hid (O.readyE v o = 9) := Lib.hid (by rw [HL.out, hl]; simp)
   rw [hl] at HB
   clear hl
   refine (HB.out _).mono ?_
   rintro e w3 ⟨rfl, hb⟩
   have HT3 := Lib.hid (HT2.out.below hb)
   clear hb
   go_wp2_with fail
   go_ret
   exact ⟨by rw [HE.out]; rfl, HT3.out.old⟩
  ·have HE : Hid (O.readyE v o = 0) := Lib.hid (by rw [HL.out, hl]; simp)
   rw [hl] at HB
   clear hl
   refine (HB.out _).mono ?_
   rintro e w3 ⟨rfl, hb⟩
   have HT3 := Lib.hid (HT2.out.below hb)
   clear hb
   go_wp2_with fail
   go_ret
   exact ⟨by rw [HE.out]; rfl, HT3.out.old⟩
 ·have HE : Hid (O.readyE v o = 8) := Lib.hid (by rw [HL.out, hh]; simp)
  rw [hh] at HH
  clear hh
  refine (HH.out _).mono ?_
  rintro e w2 ⟨rfl, hb⟩
  have HT2 := Lib.hid (HT1.out.below hb)
  clear hb
  go_wp2_with fail
  go_ret
  exact ⟨by rw [HE.out]; rfl, HT2.out.old⟩
end Go.Proofs.YtnekpgmgnepdoaaGreat
