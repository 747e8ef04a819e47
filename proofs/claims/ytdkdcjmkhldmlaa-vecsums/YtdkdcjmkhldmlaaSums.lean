/- VecSums: what two vectors mean together is what their join and their meet mean together. No condition. -/
import Derived.Test.YtdkdcjmkhldmlaaLaw
namespace Go.Proofs.Ytdkdcjmkhldmlaa
open Go.ChangeShapes Go.WideShapes Go.ChangeAt Go.RowKit

theorem sumTo_jm (a b : V) : ∀ k, k ≤ 16 → V.sumTo (V.join a b) k + V.sumTo (V.meet a b) k = V.sumTo a k + V.sumTo b k
  | 0, _ => rfl
  | k + 1, h => by
    have ih := sumTo_jm a b k (by omega)
    simp only [V.sumTo, V.join_at a b (show k < 16 by omega), V.meet_at a b (show k < 16 by omega)]
    omega
theorem sum_jm (a b : V) : V.sum (V.join a b) + V.sum (V.meet a b) = V.sum a + V.sum b := sumTo_jm a b 16 (Nat.le_refl _)

namespace VecSums
set_option maxHeartbeats 4000000 in
set_option maxRecDepth 100000 in
theorem walk (a b : V) (w : World) : Calls Try.prog 9 #[.agg a.arr, .agg b.arr] w (Says (.bool true) w) := by
  have hb1 := fun (v : V) (w : World) => box24 v w
  have HT := Lib.hid (two_new w a b)
  go_enter Try.func9, Try.ntmps9
  go_wp2_with fail
  clear hb1
  generalize (w.alloc (.cells a.arr 24)).alloc (.cells b.arr 24) = W at HT
  refine (alive_any _).mono ?_
  rintro e w1 ⟨rfl, hb⟩
  have HT1 := Lib.hid (HT.out.below hb)
  clear hb
  go_wp2_with fail
  refine wp_region_held_drew (S := fun w' => Two w w' a b) (by kernel_rfl) HT1.out.drew (fun hS => ?_)
  refine held_take 0 7 (.agg a.arr) rfl rfl (by kernel_rfl) (by kernel_rfl) (by kernel_rfl) (fun _ _ _ h => h) (by kernel_rfl) (fun _ h => exec_load24 rfl rfl h.one) hS ?_
  simp only [Act.put, List.setIfInBounds_toArray, List.set_cons_zero, List.set_cons_succ]
  refine held_take 1 8 (.agg b.arr) rfl rfl (by kernel_rfl) (by kernel_rfl) (by kernel_rfl) (fun _ _ _ h => h) (by kernel_rfl) (fun _ h => exec_load24 rfl rfl h.two) hS ?_
  simp only [Act.put, List.setIfInBounds_toArray, List.set_cons_zero, List.set_cons_succ]
  refine held_take 4 11 (.agg a.arr) rfl rfl (by kernel_rfl) (by kernel_rfl) (by kernel_rfl) (fun _ _ _ h => h) (by kernel_rfl) (fun _ h => exec_load24 rfl rfl h.one) hS ?_
  simp only [Act.put, List.setIfInBounds_toArray, List.set_cons_zero, List.set_cons_succ]
  refine held_take 5 12 (.agg b.arr) rfl rfl (by kernel_rfl) (by kernel_rfl) (by kernel_rfl) (fun _ _ _ h => h) (by kernel_rfl) (fun _ h => exec_load24 rfl rfl h.two) hS ?_
  simp only [Act.put, List.setIfInBounds_toArray, List.set_cons_zero, List.set_cons_succ]
  refine held_take 9 16 (.agg a.arr) rfl rfl (by kernel_rfl) (by kernel_rfl) (by kernel_rfl) (fun _ _ _ h => h) (by kernel_rfl) (fun _ h => exec_load24 rfl rfl h.one) hS ?_
  simp only [Act.put, List.setIfInBounds_toArray, List.set_cons_zero, List.set_cons_succ]
  refine held_take 11 18 (.agg b.arr) rfl rfl (by kernel_rfl) (by kernel_rfl) (by kernel_rfl) (fun _ _ _ h => h) (by kernel_rfl) (fun _ h => exec_load24 rfl rfl h.two) hS ?_
  simp only [Act.put, List.setIfInBounds_toArray, List.set_cons_zero, List.set_cons_succ]
  refine held_call 2 9 18 #[(.agg a.arr), (.agg b.arr)] (.agg (V.join a b).arr) rfl (by kernel_rfl) rfl (by kernel_rfl) (by kernel_rfl) (join_any a b _) (fun _ h hb => h.below hb) hS (fun w102 hS => ?_)
  simp only [Act.put, List.setIfInBounds_toArray, List.set_cons_zero, List.set_cons_succ]
  refine held_call 3 10 22 #[(.agg (V.join a b).arr)] (.int .u64 (V.sum (V.join a b) : Int)) rfl (by kernel_rfl) rfl (by kernel_rfl) (by kernel_rfl) (sum_any (V.join a b) _) (fun _ h hb => h.below hb) hS (fun w103 hS => ?_)
  simp only [Act.put, List.setIfInBounds_toArray, List.set_cons_zero, List.set_cons_succ]
  refine held_call 6 13 20 #[(.agg a.arr), (.agg b.arr)] (.agg (V.meet a b).arr) rfl (by kernel_rfl) rfl (by kernel_rfl) (by kernel_rfl) (meet_any a b _) (fun _ h hb => h.below hb) hS (fun w106 hS => ?_)
  simp only [Act.put, List.setIfInBounds_toArray, List.set_cons_zero, List.set_cons_succ]
  refine held_call 7 14 22 #[(.agg (V.meet a b).arr)] (.int .u64 (V.sum (V.meet a b) : Int)) rfl (by kernel_rfl) rfl (by kernel_rfl) (by kernel_rfl) (sum_any (V.meet a b) _) (fun _ h hb => h.below hb) hS (fun w107 hS => ?_)
  simp only [Act.put, List.setIfInBounds_toArray, List.set_cons_zero, List.set_cons_succ]
  refine held_take 8 15 (.int .u64 ((V.sum (V.join a b) + V.sum (V.meet a b) : Nat) : Int)) rfl rfl (by kernel_rfl) (by kernel_rfl) (by kernel_rfl) (fun _ _ _ h => h) (by kernel_rfl) (fun _ _ => exec_add rfl rfl rfl (by have := V.sum_lt (V.join a b); have := V.sum_lt (V.meet a b); omega)) hS ?_
  simp only [Act.put, List.setIfInBounds_toArray, List.set_cons_zero, List.set_cons_succ]
  refine held_call 10 17 22 #[(.agg a.arr)] (.int .u64 (V.sum a : Int)) rfl (by kernel_rfl) rfl (by kernel_rfl) (by kernel_rfl) (sum_any a _) (fun _ h hb => h.below hb) hS (fun w110 hS => ?_)
  simp only [Act.put, List.setIfInBounds_toArray, List.set_cons_zero, List.set_cons_succ]
  refine held_call 12 19 22 #[(.agg b.arr)] (.int .u64 (V.sum b : Int)) rfl (by kernel_rfl) rfl (by kernel_rfl) (by kernel_rfl) (sum_any b _) (fun _ h hb => h.below hb) hS (fun w112 hS => ?_)
  simp only [Act.put, List.setIfInBounds_toArray, List.set_cons_zero, List.set_cons_succ]
  refine held_take 13 20 (.int .u64 ((V.sum a + V.sum b : Nat) : Int)) rfl rfl (by kernel_rfl) (by kernel_rfl) (by kernel_rfl) (fun _ _ _ h => h) (by kernel_rfl) (fun _ _ => exec_add rfl rfl rfl (by have := V.sum_lt a; have := V.sum_lt b; omega)) hS ?_
  simp only [Act.put, List.setIfInBounds_toArray, List.set_cons_zero, List.set_cons_succ]
  refine held_take 14 21 (.bool true) rfl rfl (by kernel_rfl) (by kernel_rfl) (by kernel_rfl) (fun _ _ _ h => h) (by kernel_rfl) (fun _ _ => exec_eqlI trivial rfl rfl rfl (by rw [sum_jm, beq_self_eq_true])) hS ?_
  simp only [Act.put, List.setIfInBounds_toArray, List.set_cons_zero, List.set_cons_succ]
  refine held_take 15 4 (.bool true) rfl rfl (by kernel_rfl) (by kernel_rfl) (by kernel_rfl) (fun _ _ _ h => h) (by kernel_rfl) (fun _ _ => rfl) hS ?_
  simp only [Act.put, List.setIfInBounds_toArray, List.set_cons_zero, List.set_cons_succ]
  refine wpAnyH_done (by kernel_rfl) ?_ _
  go_wp2_with fail
  go_ret
  exact ⟨rfl, hS.old⟩

set_option maxRecDepth 100000 in
theorem lifted (os : Os) (started : os.Started) (H : Type) (enc : TypeId × Value → H) :
    ReturnsInHanded {} Try.checked os 9 .any (Rows.vecSumsSpec.pre6 enc Try.prog Try.f9 Rows.vecSumsRow.domain false) (Rows.vecSumsSpec.post enc Try.prog Try.f9 false true false false) := by
  refine returnsInHanded_of_change (C := Try.checked) own started (by kernel_rfl) Try.func9
    (ChangeSpec.witness6 (enc := enc) (C := Try.checked) false ⟨#[], #[.agg #[.int .u32 0, .int .u32 0, .int .u32 0, .int .u32 0, .int .u32 0, .int .u32 0, .int .u32 0, .int .u32 0, .int .u32 0, .int .u32 0, .int .u32 0, .int .u32 0, .int .u32 0, .int .u32 0, .int .u32 0, .int .u32 0], .agg #[.int .u32 0, .int .u32 0, .int .u32 0, .int .u32 0, .int .u32 0, .int .u32 0, .int .u32 0, .int .u32 0, .int .u32 0, .int .u32 0, .int .u32 0, .int .u32 0, .int .u32 0, .int .u32 0, .int .u32 0, .int .u32 0]], []⟩ 8 (by kernel_rfl) (by kernel_rfl) (by kernel_rfl) (by kernel_rfl)) ?_
  intro W base args ds gs before hval0 hW hcnd _
  have hval : ∀ (j : Nat) t v, Try.f9.params[j]? = some t → args[j]? = some v → Value.okWide Try.prog W .any base t v := hval0
  have hW' := hW
  obtain ⟨p, q, hA0, hV, rfl, hfz, hnd⟩ := hW
  have hA : DataW.TrodAll enc Try.prog W 0 (fun _ => true) true Try.f9.params.toList args.toList ds p := hA0
  rw [Try.params9] at hA hval
  obtain ⟨v0, v1, d0, d1, p0, p1, rfl, rfl, rfl, h0, h1⟩ := trodAll_two hA
  obtain ⟨rfl, rfl⟩ := trodVars_none hV
  have lt0 : ∀ x ∈ p0, x.block < W.heap.size := by obtain ⟨m, hm⟩ := h0; exact DataW.trod_lt m _ _ _ hm
  obtain ⟨a0, rfl⟩ := vec_of (hval 0 24 v0 rfl rfl) h0
  have lt1 : ∀ x ∈ p1, x.block < W.heap.size := by obtain ⟨m, hm⟩ := h1; exact DataW.trod_lt m _ _ _ hm
  obtain ⟨a1, rfl⟩ := vec_of (hval 1 24 v1 rfl rfl) h1
  clear hA0 hval0
  refine (walk a0 a1 W).mono fun e W' ⟨he, bel⟩ => ?_
  subst he
  exact ⟨_, rfl, _, _, _, [], _, [], hW', trodAll_mk1 (shut_bool Try.underlying4 _), trodAll_mk2 (Below.trod laidOut (by kernel_rfl) (of_decide_eq_true (by kernel_rfl)) h0 bel lt0) (Below.trod laidOut (by kernel_rfl) (of_decide_eq_true (by kernel_rfl)) h1 bel lt1), rfl, bel.frame _, fun h => by cases h⟩
end VecSums

theorem vecSums_proved : Rows.VecSumsSaid :=
  OpenClaim.holds_of_wide 9 Try.f9 rfl rfl rfl rfl rfl rfl rfl ⟨rfl, rfl, rfl, rfl, rfl⟩ rfl rfl rfl rfl rfl (by kernel_rfl) Try.func9 (by kernel_rfl)
    (of_decide_eq_true (by kernel_rfl)) (by unfold Func.isWrapper; first | (rw [if_pos (by decide +kernel)]; kernel_rfl) | (rw [if_neg (by decide +kernel)]; exact ⟨rfl, rfl⟩))
    (fun os started H enc _ => VecSums.lifted os started H enc)
#print axioms vecSums_proved
end Go.Proofs.Ytdkdcjmkhldmlaa
