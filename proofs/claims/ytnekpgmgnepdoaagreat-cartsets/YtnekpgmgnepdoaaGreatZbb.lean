import Derived.Lib.AppendZeros
import Derived.ProofKit
import Derived.OpenShut
import Derived.ChangeOld
import Derived.ChangeSame
import Derived.Lib.SmallJoins
import Derived.Deep.Slices
import Derived.Deep.Fields
import Derived.Laws.MakeOwn
import Derived.RangeFuncNested
import Derived.RangeFuncBound
import Derived.RangeFuncCalls
import Derived.RangeFuncLeaves
import Derived.RangeFuncFrom
import Derived.RangeFuncBox
import Derived.Shelf.Abstract
import Derived.Shelf.RegionOpen
import Derived.OwnWalkIn
import Derived.TacticsInMore
import Derived.LoopNIn
import Derived.LoopIn
import Derived.Maps.OwnIn
import Derived.Maps.AppendAt
import Derived.Test.YtnekpgmgnepdoaaGreatZam
section
namespace Go.Proofs.YtnekpgmgnepdoaaGreat
open Go.RowKit
section
variable {ev : Operand → Value} {o : Oper} {w : World}
theorem exec_leqI {x y : Operand} {u t : TypeId} {k : IntKind} {a b : Int} {r : Bool} (ho : o.op = .binOp .leq u x y t) (hx : ev x = .int k a) (hy : ev y = .int k b) (hr : decide (a ≤ b) = r) : (execOp ev o).run Tryz.prog w = .ok (.value (.bool r)) w := by
 subst hr
 unfold execOp
 simp [ho, hx, hy, eqGuard, binOp, Op.intCmp]
end
theorem Ow.drew {w W : World} {o : O} (h : Ow w W o) : Ow w W.drew o := ⟨h.one, h.old.drew⟩
end Go.Proofs.YtnekpgmgnepdoaaGreat
end
section
namespace Go.Proofs.YtnekpgmgnepdoaaGreat
open Go.RowKit
section
variable {ev : Operand → Value} {o : Oper} {w : World}
theorem exec_index24 {x y : Operand} {b off j : Nat} (ho : o.op = .indexAddr 24 x y) (hx : ev x = .pointer (some ⟨b, off, none⟩)) (hy : ev y = .int .u8 (j : Int)) (hj : j < 16) : (execOp ev o).run Tryz.prog w = .ok (.value (.pointer (some ⟨b, off + j, none⟩))) w := by
 unfold execOp
 have h2 : (j : Int) < 16 := by omega
 have h0 : (0 : Int) ≤ (j : Int) := by omega
 have hu := und24
 have hz : (Go.sizeOf 22).run Tryz.prog w = .ok 1 w := by kernel_rfl
 simp only [ho, hx, hy]
 go_simp
theorem exec_pred {x y : Operand} {s : Nat} (ho : o.op = .binOp .sub 22 x y 22) (hx : ev x = .int .u32 (s : Int)) (hy : ev y = .int .u32 1) (hs : s < 4294967296) (h1 : 1 ≤ s) : (execOp ev o).run Tryz.prog w = .ok (.value (.int .u32 ((s - 1 : Nat) : Int))) w := by
 have e : IntKind.u32.wrap ((s : Int) - 1) = (s : Int) - 1 := by have := wrap_sub s 1 hs h1; simpa using this
 have e2 : ((s - 1 : Nat) : Int) = (s : Int) - 1 := by omega
 rw [e2, ← e]
 unfold execOp
 simp [ho, hx, hy, eqGuard, binOp, Op.intArith]
end
theorem pred_eq {x s : Nat} (h : 1 ≤ s) (e : x + 1 = s) : ((x : Int) == ((s - 1 : Nat) : Int)) = true := by simp; omega
theorem pred_ne {x s : Nat} (h : 1 ≤ s) (e : ¬ x + 1 = s) : ((x : Int) == ((s - 1 : Nat) : Int)) = false := by simp; omega
theorem tick_le {t : Nat} (h : t ≤ 1073741824) : decide ((t : Int) ≤ 1073741824) = true := by simp; omega
theorem tick_gt {t : Nat} (h : ¬ t ≤ 1073741824) : decide ((t : Int) ≤ 1073741824) = false := by simp; omega
end Go.Proofs.YtnekpgmgnepdoaaGreat
end
section
namespace Go.Proofs.YtnekpgmgnepdoaaGreat
open Go.RowKit
theorem rkind_any (o : O) (w : World) : Calls Tryz.prog 131 #[.agg o.arr] w (Says (.bool o.kindB) w) := by
 have hb1 := fun w => box33 o w
 have HT := Lib.hid (ow_new w o)
 have c2 := oc2 (ow_new w o).one
 have c4 := oc4 (ow_new w o).one
 have c5 := oc5 (ow_new w o).one
 have hk := o.hk
 have hi := o.hi
 have hq := o.hq
 by_cases h1 : o.k = 1
 ·have HE : Hid (o.kindB = decide (1 ≤ o.q)) := Lib.hid (by unfold O.kindB; rw [Bool.eq_iff_iff]; simp <;> omega)
  rw [h1] at c2
  go_enter Tryz.func131, Tryz.ntmps131
  go_wp2_with fail
  go_ret
  exact ⟨ret_bool (by rw [HE.out]; first | rfl | (rw [Bool.eq_iff_iff]; simp <;> omega)), HT.out.old⟩
 by_cases h2 : o.k = 2
 ·have HE : Hid (o.kindB = true) := Lib.hid (by unfold O.kindB; simp <;> omega)
  rw [h2] at c2
  go_enter Tryz.func131, Tryz.ntmps131
  go_wp2_with fail
  go_ret
  exact ⟨ret_bool HE.out.symm, HT.out.old⟩
 by_cases h3 : o.k = 3
 ·have HE : Hid (o.kindB = decide (o.q = 0)) := Lib.hid (by unfold O.kindB; rw [Bool.eq_iff_iff]; simp <;> omega)
  rw [h3] at c2
  go_enter Tryz.func131, Tryz.ntmps131
  go_wp2_with fail
  go_ret
  exact ⟨ret_bool (by rw [HE.out]; first | rfl | (rw [Bool.eq_iff_iff]; simp <;> omega)), HT.out.old⟩
 by_cases h4 : o.k = 4
 ·by_cases hi0 : o.i = 0
  ·have HE : Hid (o.kindB = decide (o.q = 0)) := Lib.hid (by unfold O.kindB; rw [Bool.eq_iff_iff]; simp <;> omega)
   rw [h4] at c2
   rw [hi0] at c4
   go_enter Tryz.func131, Tryz.ntmps131
   go_wp2_with fail
   go_ret
   exact ⟨ret_bool (by rw [HE.out]; first | rfl | (rw [Bool.eq_iff_iff]; simp <;> omega)), HT.out.old⟩
  ·have HE : Hid (o.kindB = false) := Lib.hid (by unfold O.kindB; simp <;> omega)
   have gi : ((o.i : Int) == 0) = false := by simp <;> omega
   rw [h4] at c2
   go_enter Tryz.func131, Tryz.ntmps131
   go_wp2_with fail
   go_ret
   exact ⟨ret_bool HE.out.symm, HT.out.old⟩
 by_cases h5 : o.k = 5
 ·by_cases hi0 : o.i = 0
  ·have HE : Hid (o.kindB = decide (o.q = 0)) := Lib.hid (by unfold O.kindB; rw [Bool.eq_iff_iff]; simp <;> omega)
   rw [h5] at c2
   rw [hi0] at c4
   go_enter Tryz.func131, Tryz.ntmps131
   go_wp2_with fail
   go_ret
   exact ⟨ret_bool (by rw [HE.out]; first | rfl | (rw [Bool.eq_iff_iff]; simp <;> omega)), HT.out.old⟩
  ·have HE : Hid (o.kindB = false) := Lib.hid (by unfold O.kindB; simp <;> omega)
   have gi : ((o.i : Int) == 0) = false := by simp <;> omega
   rw [h5] at c2
   go_enter Tryz.func131, Tryz.ntmps131
   go_wp2_with fail
   go_ret
   exact ⟨ret_bool HE.out.symm, HT.out.old⟩
 have HE : Hid (o.kindB = false) := Lib.hid (by unfold O.kindB; simp <;> omega)
 have gk1 : ((o.k : Int) == 1) = false := by simp <;> omega
 have gk2 : ((o.k : Int) == 2) = false := by simp <;> omega
 have gk3 : ((o.k : Int) == 3) = false := by simp <;> omega
 have gk4 : ((o.k : Int) == 4) = false := by simp <;> omega
 have gk5 : ((o.k : Int) == 5) = false := by simp <;> omega
 go_enter Tryz.func131, Tryz.ntmps131
 go_wp2_with fail
 go_ret
 exact ⟨ret_bool HE.out.symm, HT.out.old⟩
theorem rright_op (o : O) (n : Int) (w : World) (h0 : -9223372036854775808 ≤ n) (h1 : n ≤ 9223372036854775807) : Calls Tryz.prog 95 #[.agg o.arr, .int .i64 n] w (Says (.bool (o.rightB n)) w) := by
 have hb1 := fun w => box33 o w
 have HT := Lib.hid (ow_new w o)
 have HD := Lib.hid (fun w => rdot_any o.r o.s w o.hr o.hs)
 have HR := Lib.hid (fun w => rright_any o.v n w h0 h1)
 have HK := Lib.hid (fun w => rkind_any o w)
 have c0 := oc0 (ow_new w o).one
 have hr := o.hr
 have hs := o.hs
 by_cases hn1 : n < 1
 ·have HE : Hid (o.rightB n = false) := Lib.hid (O.right_no (fun h => by have := h.2.2.1; omega))
  go_enter Tryz.func95, Tryz.ntmps95
  go_wp2_with fail
  go_ret
  exact ⟨ret_bool HE.out.symm, HT.out.old⟩
 have hn1' : 1 ≤ n := by omega
 by_cases hn2 : 16 < n
 ·have HE : Hid (o.rightB n = false) := Lib.hid (O.right_no (fun h => by
   have := h.2.2.2.1
   simp only [V.rightB, Bool.and_eq_true, decide_eq_true_eq] at this
   omega))
  clear hn1
  go_enter Tryz.func95, Tryz.ntmps95
  go_wp2_with fail
  go_ret
  exact ⟨ret_bool HE.out.symm, HT.out.old⟩
 have hn2' : n ≤ 16 := by omega
 clear hn1 hn2
 have gn1 : decide (n < 1) = false := by simp; omega
 have gn2 : decide (16 < n) = false := by simp; omega
 by_cases hn : (o.r : Int) < n
 ·have gn3 : decide (n ≤ (o.r : Int)) = false := by simp; omega
  go_enter Tryz.func95, Tryz.ntmps95
  go_wp2_with (refine wpList_runW (exec_dot (p := o) rfl rfl HT.out.one) (by kernel_rfl) ?_)
  clear hb1 c0
  generalize w.alloc (.cells o.arr 33) = W at HT
  cases hd : V.dotB o.r o.s
  ·have HE : Hid (o.rightB n = false) := Lib.hid (O.right_no (fun h => by have := h.1; rw [hd] at this; cases this))
   rw [hd] at HD
   clear hd
   refine (HD.out _).mono ?_
   rintro e w1 ⟨rfl, hb⟩
   have HT1 := Lib.hid (HT.out.below hb)
   clear hb
   go_wp2_with fail
   go_ret
   exact ⟨ret_bool HE.out.symm, HT1.out.old⟩
  ·have HD1 := Lib.hid hd
   obtain ⟨hr1, hs1, hs2⟩ := dotB_lt hd
   rw [hd] at HD
   clear hd
   refine (HD.out _).mono ?_
   rintro e w1 ⟨rfl, hb⟩
   have HT1 := Lib.hid (HT.out.below hb)
   clear hb HT
   go_wp2_with (refine wpList_runW (exec_ctx (p := o) rfl rfl HT1.out.one) (by kernel_rfl) ?_)
   cases hv : V.rightB o.v n
   ·have HE : Hid (o.rightB n = false) := Lib.hid (O.right_no (fun h => by have := h.2.2.2.1; rw [hv] at this; cases this))
    rw [hv] at HR
    clear hv
    refine (HR.out _).mono ?_
    rintro e w2 ⟨rfl, hb⟩
    have HT2 := Lib.hid (HT1.out.below hb)
    clear hb
    go_wp2_with fail
    go_ret
    exact ⟨ret_bool HE.out.symm, HT2.out.old⟩
   ·have HV := Lib.hid hv
    rw [hv] at HR
    clear hv
    refine (HR.out _).mono ?_
    rintro e w2 ⟨rfl, hb⟩
    have HT2 := Lib.hid (HT1.out.below hb)
    clear hb HT1
    go_wp2_with fail
    by_cases hq : o.v.at_ o.r + 1 = o.s
    ·by_cases htk : o.t ≤ 1073741824
     ·have HE : Hid (o.rightB n = o.kindB) := Lib.hid (by
       rw [Bool.eq_iff_iff, O.right_iff]
       exact ⟨fun h => h.2.2.2.2.2, fun h => ⟨HD1.out, hq, hn, HV.out, htk, h⟩⟩)
      refine wp_region_held_drew (S := fun w' => Ow w w' o) (by kernel_rfl) HT2.out.drew (fun hS => ?_)
      refine held_tk 0 32 (.pointer (some ⟨w.heap.size, 0, none⟩)) rfl rfl (by kernel_rfl) (fun _ _ _ h => h) (fun _ _ => (by kernel_rfl)) hS ?_
      simp only [Act.put, ap1, ap2, ap3]
      refine held_tk 1 33 (.pointer (some ⟨w.heap.size, 0, none⟩)) rfl rfl (by kernel_rfl) (fun _ _ _ h => h) (fun _ _ => (by kernel_rfl)) hS ?_
      simp only [Act.put, ap1, ap2, ap3]
      refine held_tk 2 34 (.int .u8 (o.r : Int)) rfl rfl (by kernel_rfl) (fun _ _ _ h => h) (fun _ h => exec_cell rfl rfl (load_cell (by kernel_rfl) (oc0 h.one))) hS ?_
      simp only [Act.put, ap1, ap2, ap3]
      refine held_tk 3 35 (.pointer (some ⟨w.heap.size, 7, none⟩)) rfl rfl (by kernel_rfl) (fun _ _ _ h => h) (fun _ _ => (by kernel_rfl)) hS ?_
      simp only [Act.put, ap1, ap2, ap3]
      refine held_tk 4 36 (.pointer (some ⟨w.heap.size, 7 + o.r, none⟩)) rfl rfl (by kernel_rfl) (fun _ _ _ h => h) (fun _ _ => exec_index24 rfl rfl rfl hr1) hS ?_
      simp only [Act.put, ap1, ap2, ap3]
      refine held_tk 5 37 (.int .u32 (o.v.at_ o.r : Int)) rfl rfl (by kernel_rfl) (fun _ _ _ h => h) (fun _ h => exec_cell rfl rfl (load_cell (by kernel_rfl) (oc7 h.one hr1))) hS ?_
      simp only [Act.put, ap1, ap2, ap3]
      refine held_tk 6 38 (.pointer (some ⟨w.heap.size, 0, none⟩)) rfl rfl (by kernel_rfl) (fun _ _ _ h => h) (fun _ _ => (by kernel_rfl)) hS ?_
      simp only [Act.put, ap1, ap2, ap3]
      refine held_tk 7 39 (.pointer (some ⟨w.heap.size, 1, none⟩)) rfl rfl (by kernel_rfl) (fun _ _ _ h => h) (fun _ _ => (by kernel_rfl)) hS ?_
      simp only [Act.put, ap1, ap2, ap3]
      refine held_tk 8 40 (.int .u32 (o.s : Int)) rfl rfl (by kernel_rfl) (fun _ _ _ h => h) (fun _ h => exec_cell rfl rfl (load_cell (by kernel_rfl) (oc1 h.one))) hS ?_
      simp only [Act.put, ap1, ap2, ap3]
      refine held_tk 9 41 (.int .u32 ((o.s - 1 : Nat) : Int)) rfl rfl (by kernel_rfl) (fun _ _ _ h => h) (fun _ _ => exec_pred rfl rfl rfl hs (by omega)) hS ?_
      simp only [Act.put, ap1, ap2, ap3]
      refine held_tk 10 42 (.bool true) rfl rfl (by kernel_rfl) (fun _ _ _ h => h) (fun _ _ => exec_eqlI trivial rfl rfl rfl (pred_eq (by omega) hq)) hS ?_
      simp only [Act.put, ap1, ap2, ap3]
      refine held_tk 11 43 (.bool true) rfl rfl (by kernel_rfl) (fun _ _ _ h => h) (fun _ _ => rfl) hS ?_
      simp only [Act.put, ap1, ap2, ap3]
      refine held_tk 12 44 (.pointer (some ⟨w.heap.size, 6, none⟩)) rfl rfl (by kernel_rfl) (fun _ _ _ h => h) (fun _ _ => (by kernel_rfl)) hS ?_
      simp only [Act.put, ap1, ap2, ap3]
      refine held_tk 13 45 (.int .u32 (o.t : Int)) rfl rfl (by kernel_rfl) (fun _ _ _ h => h) (fun _ h => exec_cell rfl rfl (load_cell (by kernel_rfl) (oc6 h.one))) hS ?_
      simp only [Act.put, ap1, ap2, ap3]
      refine held_tk 14 46 (.bool true) rfl rfl (by kernel_rfl) (fun _ _ _ h => h) (fun _ _ => exec_leqI rfl rfl rfl (tick_le htk)) hS ?_
      simp only [Act.put, ap1, ap2, ap3]
      refine held_tk 15 47 (.bool true) rfl rfl (by kernel_rfl) (fun _ _ _ h => h) (fun _ _ => rfl) hS ?_
      simp only [Act.put, ap1, ap2, ap3]
      refine held_tk 16 48 (.bool true) rfl rfl (by kernel_rfl) (fun _ _ _ h => h) (fun _ _ => rfl) hS ?_
      simp only [Act.put, ap1, ap2, ap3]
      refine held_tk 17 49 (.agg o.arr) rfl rfl (by kernel_rfl) (fun _ _ _ h => h) (fun _ h => exec_load33 (p := o) rfl rfl h.one) hS ?_
      simp only [Act.put, ap1, ap2, ap3]
      refine held_call 18 50 131 #[(.agg o.arr)] (.bool o.kindB) rfl (by kernel_rfl) rfl (by kernel_rfl) (by kernel_rfl) (HK.out _) (fun _ h hb => h.below hb) hS (fun w118 hS => ?_)
      simp only [Act.put, ap1, ap2, ap3]
      refine held_tk 19 51 (.bool o.kindB) rfl rfl (by kernel_rfl) (fun _ _ _ h => h) (fun _ _ => rfl) hS ?_
      simp only [Act.put, ap1, ap2, ap3]
      refine held_tk 20 4 (.bool o.kindB) rfl rfl (by kernel_rfl) (fun _ _ _ h => h) (fun _ _ => rfl) hS ?_
      simp only [Act.put, ap1, ap2, ap3]
      refine wpAnyH_done (by kernel_rfl) ?_ _
      go_wp2_with fail
      go_ret
      exact ⟨ret_bool HE.out.symm, hS.old⟩
     ·have HE : Hid (o.rightB n = false) := Lib.hid (O.right_no (fun h => htk h.2.2.2.2.1))
      refine wp_region_held_drew (S := fun w' => Ow w w' o) (by kernel_rfl) HT2.out.drew (fun hS => ?_)
      refine held_tk 0 32 (.pointer (some ⟨w.heap.size, 0, none⟩)) rfl rfl (by kernel_rfl) (fun _ _ _ h => h) (fun _ _ => (by kernel_rfl)) hS ?_
      simp only [Act.put, ap1, ap2, ap3]
      refine held_tk 1 33 (.pointer (some ⟨w.heap.size, 0, none⟩)) rfl rfl (by kernel_rfl) (fun _ _ _ h => h) (fun _ _ => (by kernel_rfl)) hS ?_
      simp only [Act.put, ap1, ap2, ap3]
      refine held_tk 2 34 (.int .u8 (o.r : Int)) rfl rfl (by kernel_rfl) (fun _ _ _ h => h) (fun _ h => exec_cell rfl rfl (load_cell (by kernel_rfl) (oc0 h.one))) hS ?_
      simp only [Act.put, ap1, ap2, ap3]
      refine held_tk 3 35 (.pointer (some ⟨w.heap.size, 7, none⟩)) rfl rfl (by kernel_rfl) (fun _ _ _ h => h) (fun _ _ => (by kernel_rfl)) hS ?_
      simp only [Act.put, ap1, ap2, ap3]
      refine held_tk 4 36 (.pointer (some ⟨w.heap.size, 7 + o.r, none⟩)) rfl rfl (by kernel_rfl) (fun _ _ _ h => h) (fun _ _ => exec_index24 rfl rfl rfl hr1) hS ?_
      simp only [Act.put, ap1, ap2, ap3]
      refine held_tk 5 37 (.int .u32 (o.v.at_ o.r : Int)) rfl rfl (by kernel_rfl) (fun _ _ _ h => h) (fun _ h => exec_cell rfl rfl (load_cell (by kernel_rfl) (oc7 h.one hr1))) hS ?_
      simp only [Act.put, ap1, ap2, ap3]
      refine held_tk 6 38 (.pointer (some ⟨w.heap.size, 0, none⟩)) rfl rfl (by kernel_rfl) (fun _ _ _ h => h) (fun _ _ => (by kernel_rfl)) hS ?_
      simp only [Act.put, ap1, ap2, ap3]
      refine held_tk 7 39 (.pointer (some ⟨w.heap.size, 1, none⟩)) rfl rfl (by kernel_rfl) (fun _ _ _ h => h) (fun _ _ => (by kernel_rfl)) hS ?_
      simp only [Act.put, ap1, ap2, ap3]
      refine held_tk 8 40 (.int .u32 (o.s : Int)) rfl rfl (by kernel_rfl) (fun _ _ _ h => h) (fun _ h => exec_cell rfl rfl (load_cell (by kernel_rfl) (oc1 h.one))) hS ?_
      simp only [Act.put, ap1, ap2, ap3]
      refine held_tk 9 41 (.int .u32 ((o.s - 1 : Nat) : Int)) rfl rfl (by kernel_rfl) (fun _ _ _ h => h) (fun _ _ => exec_pred rfl rfl rfl hs (by omega)) hS ?_
      simp only [Act.put, ap1, ap2, ap3]
      refine held_tk 10 42 (.bool true) rfl rfl (by kernel_rfl) (fun _ _ _ h => h) (fun _ _ => exec_eqlI trivial rfl rfl rfl (pred_eq (by omega) hq)) hS ?_
      simp only [Act.put, ap1, ap2, ap3]
      refine held_tk 11 43 (.bool true) rfl rfl (by kernel_rfl) (fun _ _ _ h => h) (fun _ _ => rfl) hS ?_
      simp only [Act.put, ap1, ap2, ap3]
      refine held_tk 12 44 (.pointer (some ⟨w.heap.size, 6, none⟩)) rfl rfl (by kernel_rfl) (fun _ _ _ h => h) (fun _ _ => (by kernel_rfl)) hS ?_
      simp only [Act.put, ap1, ap2, ap3]
      refine held_tk 13 45 (.int .u32 (o.t : Int)) rfl rfl (by kernel_rfl) (fun _ _ _ h => h) (fun _ h => exec_cell rfl rfl (load_cell (by kernel_rfl) (oc6 h.one))) hS ?_
      simp only [Act.put, ap1, ap2, ap3]
      refine held_tk 14 46 (.bool false) rfl rfl (by kernel_rfl) (fun _ _ _ h => h) (fun _ _ => exec_leqI rfl rfl rfl (tick_gt htk)) hS ?_
      simp only [Act.put, ap1, ap2, ap3]
      refine held_tk 15 47 (.bool false) rfl rfl (by kernel_rfl) (fun _ _ _ h => h) (fun _ _ => rfl) hS ?_
      simp only [Act.put, ap1, ap2, ap3]
      refine held_tk 16 48 (.bool false) rfl rfl (by kernel_rfl) (fun _ _ _ h => h) (fun _ _ => rfl) hS ?_
      simp only [Act.put, ap1, ap2, ap3]
      refine held_sk 17 49 rfl rfl (by kernel_rfl) (fun _ _ _ h => h) hS ?_
      simp only [Act.put, ap1, ap2, ap3]
      refine held_sk 18 50 rfl rfl (by kernel_rfl) (fun _ _ _ h => h) hS ?_
      simp only [Act.put, ap1, ap2, ap3]
      refine held_tk 19 51 (.bool false) rfl rfl (by kernel_rfl) (fun _ _ _ h => h) (fun _ _ => rfl) hS ?_
      simp only [Act.put, ap1, ap2, ap3]
      refine held_tk 20 4 (.bool false) rfl rfl (by kernel_rfl) (fun _ _ _ h => h) (fun _ _ => rfl) hS ?_
      simp only [Act.put, ap1, ap2, ap3]
      refine wpAnyH_done (by kernel_rfl) ?_ _
      go_wp2_with fail
      go_ret
      exact ⟨ret_bool HE.out.symm, hS.old⟩
    ·have HE : Hid (o.rightB n = false) := Lib.hid (O.right_no (fun h => hq h.2.1))
     refine wp_region_held_drew (S := fun w' => Ow w w' o) (by kernel_rfl) HT2.out.drew (fun hS => ?_)
     refine held_tk 0 32 (.pointer (some ⟨w.heap.size, 0, none⟩)) rfl rfl (by kernel_rfl) (fun _ _ _ h => h) (fun _ _ => (by kernel_rfl)) hS ?_
     simp only [Act.put, ap1, ap2, ap3]
     refine held_tk 1 33 (.pointer (some ⟨w.heap.size, 0, none⟩)) rfl rfl (by kernel_rfl) (fun _ _ _ h => h) (fun _ _ => (by kernel_rfl)) hS ?_
     simp only [Act.put, ap1, ap2, ap3]
     refine held_tk 2 34 (.int .u8 (o.r : Int)) rfl rfl (by kernel_rfl) (fun _ _ _ h => h) (fun _ h => exec_cell rfl rfl (load_cell (by kernel_rfl) (oc0 h.one))) hS ?_
     simp only [Act.put, ap1, ap2, ap3]
     refine held_tk 3 35 (.pointer (some ⟨w.heap.size, 7, none⟩)) rfl rfl (by kernel_rfl) (fun _ _ _ h => h) (fun _ _ => (by kernel_rfl)) hS ?_
     simp only [Act.put, ap1, ap2, ap3]
     refine held_tk 4 36 (.pointer (some ⟨w.heap.size, 7 + o.r, none⟩)) rfl rfl (by kernel_rfl) (fun _ _ _ h => h) (fun _ _ => exec_index24 rfl rfl rfl hr1) hS ?_
     simp only [Act.put, ap1, ap2, ap3]
     refine held_tk 5 37 (.int .u32 (o.v.at_ o.r : Int)) rfl rfl (by kernel_rfl) (fun _ _ _ h => h) (fun _ h => exec_cell rfl rfl (load_cell (by kernel_rfl) (oc7 h.one hr1))) hS ?_
     simp only [Act.put, ap1, ap2, ap3]
     refine held_tk 6 38 (.pointer (some ⟨w.heap.size, 0, none⟩)) rfl rfl (by kernel_rfl) (fun _ _ _ h => h) (fun _ _ => (by kernel_rfl)) hS ?_
     simp only [Act.put, ap1, ap2, ap3]
     refine held_tk 7 39 (.pointer (some ⟨w.heap.size, 1, none⟩)) rfl rfl (by kernel_rfl) (fun _ _ _ h => h) (fun _ _ => (by kernel_rfl)) hS ?_
     simp only [Act.put, ap1, ap2, ap3]
     refine held_tk 8 40 (.int .u32 (o.s : Int)) rfl rfl (by kernel_rfl) (fun _ _ _ h => h) (fun _ h => exec_cell rfl rfl (load_cell (by kernel_rfl) (oc1 h.one))) hS ?_
     simp only [Act.put, ap1, ap2, ap3]
     refine held_tk 9 41 (.int .u32 ((o.s - 1 : Nat) : Int)) rfl rfl (by kernel_rfl) (fun _ _ _ h => h) (fun _ _ => exec_pred rfl rfl rfl hs (by omega)) hS ?_
     simp only [Act.put, ap1, ap2, ap3]
     refine held_tk 10 42 (.bool false) rfl rfl (by kernel_rfl) (fun _ _ _ h => h) (fun _ _ => exec_eqlI trivial rfl rfl rfl (pred_ne (by omega) hq)) hS ?_
     simp only [Act.put, ap1, ap2, ap3]
     refine held_tk 11 43 (.bool false) rfl rfl (by kernel_rfl) (fun _ _ _ h => h) (fun _ _ => rfl) hS ?_
     simp only [Act.put, ap1, ap2, ap3]
     refine held_sk 12 44 rfl rfl (by kernel_rfl) (fun _ _ _ h => h) hS ?_
     simp only [Act.put, ap1, ap2, ap3]
     refine held_sk 13 45 rfl rfl (by kernel_rfl) (fun _ _ _ h => h) hS ?_
     simp only [Act.put, ap1, ap2, ap3]
     refine held_sk 14 46 rfl rfl (by kernel_rfl) (fun _ _ _ h => h) hS ?_
     simp only [Act.put, ap1, ap2, ap3]
     refine held_tk 15 47 (.bool false) rfl rfl (by kernel_rfl) (fun _ _ _ h => h) (fun _ _ => rfl) hS ?_
     simp only [Act.put, ap1, ap2, ap3]
     refine held_tk 16 48 (.bool false) rfl rfl (by kernel_rfl) (fun _ _ _ h => h) (fun _ _ => rfl) hS ?_
     simp only [Act.put, ap1, ap2, ap3]
     refine held_sk 17 49 rfl rfl (by kernel_rfl) (fun _ _ _ h => h) hS ?_
     simp only [Act.put, ap1, ap2, ap3]
     refine held_sk 18 50 rfl rfl (by kernel_rfl) (fun _ _ _ h => h) hS ?_
     simp only [Act.put, ap1, ap2, ap3]
     refine held_tk 19 51 (.bool false) rfl rfl (by kernel_rfl) (fun _ _ _ h => h) (fun _ _ => rfl) hS ?_
     simp only [Act.put, ap1, ap2, ap3]
     refine held_tk 20 4 (.bool false) rfl rfl (by kernel_rfl) (fun _ _ _ h => h) (fun _ _ => rfl) hS ?_
     simp only [Act.put, ap1, ap2, ap3]
     refine wpAnyH_done (by kernel_rfl) ?_ _
     go_wp2_with fail
     go_ret
     exact ⟨ret_bool HE.out.symm, hS.old⟩
 ·have HE : Hid (o.rightB n = false) := Lib.hid (O.right_no (fun h => hn h.2.2.1))
  have hn' : n ≤ (o.r : Int) := by omega
  clear hn
  go_enter Tryz.func95, Tryz.ntmps95
  go_wp2_with fail
  go_ret
  exact ⟨ret_bool HE.out.symm, HT.out.old⟩
theorem rready_any (v : V) (o : O) (w : World) : Calls Tryz.prog 44 #[.agg v.arr, .agg o.arr] w (Says (.int .i64 (O.readyE v o : Int)) w) := by
 have hb1 := fun (o : O) w => box33 o w
 have hb2 := fun (v : V) w => box24 v w
 have HT := Lib.hid (vo_new w v o)
 have HR := Lib.hid (fun w => rright_op o 16 w (by omega) (by omega))
 have HH := Lib.hid (fun w => rhas_any v o.r o.s w o.hr o.hs)
 have HB := Lib.hid (fun w => rbelow_any o.v v w)
 have HL : Hid (O.readyE v o = if o.rightB 16 = true then (if V.hasB v o.r o.s = true then 8 else if V.belowB o.v v = true then 0 else 9) else 2) := Lib.hid rfl
 go_enter Tryz.func44, Tryz.ntmps44
 go_wp2_with (refine wpList_run rfl (exec_load33 (p := o) rfl rfl HT.out.two) ?_)
 clear hb1 hb2
 generalize (w.alloc (.cells v.arr 24)).alloc (.cells o.arr 33) = W at HT
 cases hr : o.rightB 16
 ·have HE : Hid (O.readyE v o = 2) := Lib.hid (by rw [HL.out, hr]; simp)
  rw [hr] at HR
  clear hr
  refine (HR.out _).mono ?_
  rintro e w1 ⟨rfl, hb⟩
  have HT1 := Lib.hid (HT.out.below hb)
  clear hb
  go_wp2_with fail
  go_ret
  exact ⟨by rw [HE.out]; rfl, HT1.out.old⟩
 rw [hr] at HR HL
 clear hr
 refine (HR.out _).mono ?_
 rintro e w1 ⟨rfl, hb⟩
 have HT1 := Lib.hid (HT.out.below hb)
 clear hb HT
 go_wp2_with (first | (refine wpList_run rfl (exec_load24 rfl rfl HT1.out.vec) ?_) | (refine wpList_run rfl (exec_dot (p := o) rfl rfl HT1.out.two) ?_))
 cases hh : V.hasB v o.r o.s
 ·rw [hh] at HH HL
  clear hh
  refine (HH.out _).mono ?_
  rintro e w2 ⟨rfl, hb⟩
  have HT2 := Lib.hid (HT1.out.below hb)
  clear hb HT1
  go_wp2_with (first | (refine wpList_run rfl (exec_load24 rfl rfl HT2.out.vec) ?_) | (refine wpList_run rfl (exec_ctx (p := o) rfl rfl HT2.out.two) ?_))
  cases hl : V.belowB o.v v
  ·have HE : Hid (O.readyE v o = 9) := Lib.hid (by rw [HL.out, hl]; simp)
   rw [hl] at HB
   clear hl
   refine (HB.out _).mono ?_
   rintro e w3 ⟨rfl, hb⟩
   have HT3 := Lib.hid (HT2.out.below hb)
   clear hb
   go_wp2_with fail
   go_ret
   exact ⟨by rw [HE.out]; rfl, HT3.out.old⟩
  ·have HE : Hid (O.readyE v o = 0) := Lib.hid (by rw [HL.out, hl]; simp)
   rw [hl] at HB
   clear hl
   refine (HB.out _).mono ?_
   rintro e w3 ⟨rfl, hb⟩
   have HT3 := Lib.hid (HT2.out.below hb)
   clear hb
   go_wp2_with fail
   go_ret
   exact ⟨by rw [HE.out]; rfl, HT3.out.old⟩
 ·have HE : Hid (O.readyE v o = 8) := Lib.hid (by rw [HL.out, hh]; simp)
  rw [hh] at HH
  clear hh
  refine (HH.out _).mono ?_
  rintro e w2 ⟨rfl, hb⟩
  have HT2 := Lib.hid (HT1.out.below hb)
  clear hb
  go_wp2_with fail
  go_ret
  exact ⟨by rw [HE.out]; rfl, HT2.out.old⟩
end Go.Proofs.YtnekpgmgnepdoaaGreat
end
section
namespace Go.Proofs.YtnekpgmgnepdoaaGreat
open Go.RowKit
theorem V.arr16 (v : V) : v.arr.size = 16 := by have h := v.cs_len; simpa [V.arr] using h
end Go.Proofs.YtnekpgmgnepdoaaGreat
end
section
namespace Go.Proofs.YtnekpgmgnepdoaaGreat
open Go.ChangeShapes Go.WideShapes Go.ChangeAt Go.RowKit Go.Joins
theorem cells33' : Tryz.prog.cellsOf 33 = 23 := by kernel_rfl
end Go.Proofs.YtnekpgmgnepdoaaGreat
end
