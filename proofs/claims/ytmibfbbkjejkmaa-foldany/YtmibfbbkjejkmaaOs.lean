/- Walks of Right, the document's, and of Less, Ends and Ready, the program's and the document's. -/
import Derived.Test.YtmibfbbkjejkmaaOk
namespace Go.Proofs.Ytmibfbbkjejkmaa
open Go.RowKit

section
variable {ev : Operand → Value} {o : Oper} {w : World}
/-- The address of a number of a vector. -/
theorem exec_index25 {x y : Operand} {b off j : Nat} (ho : o.op = .indexAddr 25 x y) (hx : ev x = .pointer (some ⟨b, off, none⟩)) (hy : ev y = .int .u8 (j : Int)) (hj : j < 16) : (execOp ev o).run Try.prog w = .ok (.value (.pointer (some ⟨b, off + j, none⟩))) w := by
  unfold execOp
  have h2 : (j : Int) < 16 := by omega
  have h0 : (0 : Int) ≤ (j : Int) := by omega
  have hu := und25
  have hz : (Go.sizeOf 23).run Try.prog w = .ok 1 w := by kernel_rfl
  simp only [ho, hx, hy]
  go_simp
theorem exec_pred {x y : Operand} {s : Nat} (ho : o.op = .binOp .sub 23 x y 23) (hx : ev x = .int .u32 (s : Int)) (hy : ev y = .int .u32 1) (hs : s < 4294967296) (h1 : 1 ≤ s) : (execOp ev o).run Try.prog w = .ok (.value (.int .u32 ((s - 1 : Nat) : Int))) w := by
  have e : IntKind.u32.wrap ((s : Int) - 1) = (s : Int) - 1 := by have := wrap_sub s 1 hs h1; simpa using this
  have e2 : ((s - 1 : Nat) : Int) = (s : Int) - 1 := by omega
  rw [e2, ← e]
  unfold execOp
  simp [ho, hx, hy, eqGuard, binOp, Op.intArith]
end

theorem pred_eq {x s : Nat} (h : 1 ≤ s) (e : x + 1 = s) : ((x : Int) == ((s - 1 : Nat) : Int)) = true := by simp; omega
theorem pred_ne {x s : Nat} (h : 1 ≤ s) (e : ¬ x + 1 = s) : ((x : Int) == ((s - 1 : Nat) : Int)) = false := by simp; omega
theorem tick_le {t : Nat} (h : t ≤ 1073741824) : decide ((t : Int) ≤ 1073741824) = true := by simp; omega
theorem tick_gt {t : Nat} (h : ¬ t ≤ 1073741824) : decide ((t : Int) ≤ 1073741824) = false := by simp; omega

set_option maxHeartbeats 4000000 in
theorem less_any (a b : O) (w : World) : Calls Try.prog 44 #[.agg a.arr, .agg b.arr] w (Says (.bool (O.lessB a b)) w) := by
  have hb1 := fun (o : O) w => box40 o w
  have HT := Lib.hid (ow2_new w a b)
  have HA := Lib.hid (fun w => count_any a w)
  have HB := Lib.hid (fun w => count_any b w)
  have HL : Hid (O.lessB a b = decide (a.count < b.count ∨ (a.count = b.count ∧ (a.r < b.r ∨ (a.r = b.r ∧ a.s < b.s))))) := Lib.hid rfl
  have la := a.count_lt
  have lb := b.count_lt
  have ra := a.hr
  have rb := b.hr
  have sa := a.hs
  have sb := b.hs
  generalize a.count = x at HA HL la
  generalize b.count = y at HB HL lb
  go_enter Try.func44, Try.ntmps44
  go_wp2_with fail
  clear hb1
  generalize (w.alloc (.cells a.arr 40)).alloc (.cells b.arr 40) = W at HT
  refine wp_region_held_drew (S := fun w' => Ow2 w w' a b) (by kernel_rfl) HT.out.drew (fun hS => ?_)
  refine held_take 0 7 (.agg a.arr) rfl rfl (by kernel_rfl) (by kernel_rfl) (by kernel_rfl) (fun _ _ _ h => h) (by kernel_rfl) (fun _ h => exec_load40 (p := a) rfl rfl h.one) hS ?_
  simp only [Act.put, List.setIfInBounds_toArray, List.set_cons_zero, List.set_cons_succ]
  refine held_take 2 9 (.agg b.arr) rfl rfl (by kernel_rfl) (by kernel_rfl) (by kernel_rfl) (fun _ _ _ h => h) (by kernel_rfl) (fun _ h => exec_load40 (p := b) rfl rfl h.two) hS ?_
  simp only [Act.put, List.setIfInBounds_toArray, List.set_cons_zero, List.set_cons_succ]
  refine held_call 1 8 59 #[(.agg a.arr)] (.int .u64 (x : Int)) rfl (by kernel_rfl) rfl (by kernel_rfl) (by kernel_rfl) (HA.out _) (fun _ h hb => h.below hb) hS (fun w101 hS => ?_)
  simp only [Act.put, List.setIfInBounds_toArray, List.set_cons_zero, List.set_cons_succ]
  refine held_call 3 10 59 #[(.agg b.arr)] (.int .u64 (y : Int)) rfl (by kernel_rfl) rfl (by kernel_rfl) (by kernel_rfl) (HB.out _) (fun _ h hb => h.below hb) hS (fun w103 hS => ?_)
  simp only [Act.put, List.setIfInBounds_toArray, List.set_cons_zero, List.set_cons_succ]
  refine held_take 4 5 (.int .u64 (x : Int)) rfl rfl (by kernel_rfl) (by kernel_rfl) (by kernel_rfl) (fun _ _ _ h => h) (by kernel_rfl) (fun _ _ => rfl) hS ?_
  simp only [Act.put, List.setIfInBounds_toArray, List.set_cons_zero, List.set_cons_succ]
  refine held_take 5 6 (.int .u64 (y : Int)) rfl rfl (by kernel_rfl) (by kernel_rfl) (by kernel_rfl) (fun _ _ _ h => h) (by kernel_rfl) (fun _ _ => rfl) hS ?_
  simp only [Act.put, List.setIfInBounds_toArray, List.set_cons_zero, List.set_cons_succ]
  refine wpAnyH_done (by kernel_rfl) ?_ _
  have HT2 := Lib.hid hS
  clear hS
  by_cases hc : x = y
  · subst hc
    have c0 := oc0 HT2.out.one
    have d0 := oc0 HT2.out.two
    by_cases hr : a.r = b.r
    · have c1 := oc1 HT2.out.one
      have d1 := oc1 HT2.out.two
      have g1 : ((a.r : Int) != (b.r : Int)) = false := by simp; omega
      go_wp2_with fail
      go_ret
      exact ⟨ret_bool (by rw [HL.out, Bool.eq_iff_iff]; simp; omega), HT2.out.old⟩
    · have g1 : ((a.r : Int) != (b.r : Int)) = true := by simp; omega
      go_wp2_with fail
      go_ret
      exact ⟨ret_bool (by rw [HL.out, Bool.eq_iff_iff]; simp; omega), HT2.out.old⟩
  · have g0 : ((x : Int) != (y : Int)) = true := by simp; omega
    go_wp2_with fail
    go_ret
    exact ⟨ret_bool (by rw [HL.out, Bool.eq_iff_iff]; simp; omega), HT2.out.old⟩

end Go.Proofs.Ytmibfbbkjejkmaa
