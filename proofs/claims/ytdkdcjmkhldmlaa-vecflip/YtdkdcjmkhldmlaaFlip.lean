/- VecFlip: how one stands to another one is the opposite of how that stands to it; what is right among some replicas is right among more. No condition. -/
import Derived.Test.YtdkdcjmkhldmlaaLaw
namespace Go.Proofs.Ytdkdcjmkhldmlaa
open Go.ChangeShapes Go.WideShapes Go.ChangeAt Go.RowKit

theorem flip_cases (a b : V) : (V.order a b = 2 ∧ V.order b a = 2) ∨ (V.order a b = 0 ∧ V.order b a = 0 ∧ V.eqB a b = true) ∨ (V.order a b = -1 ∧ V.order b a = 1 ∧ V.eqB a b = false) ∨ (V.order a b = 1 ∧ V.order b a = -1 ∧ V.eqB a b = false) := by
  have hs : V.eqB b a = V.eqB a b := by
    rw [Bool.eq_iff_iff, V.eqB_iff, V.eqB_iff]
    exact ⟨fun h => h.symm, fun h => h.symm⟩
  cases he : V.eqB a b
  · rw [he] at hs
    cases h1 : V.belowB a b <;> cases h2 : V.belowB b a
    · exact .inl ⟨order_unlike he h1 h2, order_unlike hs h2 h1⟩
    · exact .inr (.inr (.inr ⟨order_greater he h1 h2, order_less hs h2, rfl⟩))
    · exact .inr (.inr (.inl ⟨order_less he h1, order_greater hs h2 h1, rfl⟩))
    · exfalso
      rw [V.belowB_iff] at h1 h2
      have : a = b := V.ext fun i hi => Nat.le_antisymm (h1 i hi) (h2 i hi)
      rw [(V.eqB_iff a b).2 this] at he
      cases he
  · rw [he] at hs
    exact .inr (.inl ⟨order_same he, order_same hs, rfl⟩)

theorem right_more (a : V) (k : Int) (h : V.rightB a k = true) : V.rightB a 16 = true := by
  unfold V.rightB at h ⊢
  rw [Bool.and_eq_true, decide_eq_true_eq, V.rightTo_iff] at h
  rw [Bool.and_eq_true, decide_eq_true_eq, V.rightTo_iff]
  exact ⟨by omega, fun i hi => ⟨(h.2 i hi).1, fun h16 => by omega⟩⟩

namespace VecFlip
set_option maxHeartbeats 4000000 in
set_option maxRecDepth 100000 in
theorem unlike (a b : V) (n : Nat) (w : World) (_hn : n < 256)
    (HX : Hid (∀ w, Calls Try.prog 16 #[.agg a.arr, .agg b.arr] w (Says (.int .i64 2) w))) (HY : Hid (∀ w, Calls Try.prog 16 #[.agg b.arr, .agg a.arr] w (Says (.int .i64 2) w))) :
    Calls Try.prog 10 #[.agg a.arr, .agg b.arr, .int .u8 (n : Int)] w (Says (.bool true) w) := by
  have hb1 := fun (v : V) (w : World) => box24 v w
  have HT := Lib.hid (two_new w a b)
  go_enter Try.func10, Try.ntmps10
  go_wp2_with fail
  clear hb1
  generalize (w.alloc (.cells a.arr 24)).alloc (.cells b.arr 24) = W at HT
  refine (alive_any _).mono ?_
  rintro e w1 ⟨rfl, hb⟩
  have HT1 := Lib.hid (HT.out.below hb)
  clear hb
  go_wp2_with fail
  refine wp_region_held_drew (S := fun w' => Two w w' a b) (by kernel_rfl) HT1.out.drew (fun hS => ?_)
  refine held_take 0 12 (.agg a.arr) rfl rfl (by kernel_rfl) (by kernel_rfl) (by kernel_rfl) (fun _ _ _ h => h) (by kernel_rfl) (fun _ h => exec_load24 rfl rfl h.one) hS ?_
  simp only [Act.put, List.setIfInBounds_toArray, List.set_cons_zero, List.set_cons_succ]
  refine held_take 1 13 (.agg b.arr) rfl rfl (by kernel_rfl) (by kernel_rfl) (by kernel_rfl) (fun _ _ _ h => h) (by kernel_rfl) (fun _ h => exec_load24 rfl rfl h.two) hS ?_
  simp only [Act.put, List.setIfInBounds_toArray, List.set_cons_zero, List.set_cons_succ]
  refine held_take 3 15 (.agg b.arr) rfl rfl (by kernel_rfl) (by kernel_rfl) (by kernel_rfl) (fun _ _ _ h => h) (by kernel_rfl) (fun _ h => exec_load24 rfl rfl h.two) hS ?_
  simp only [Act.put, List.setIfInBounds_toArray, List.set_cons_zero, List.set_cons_succ]
  refine held_take 4 16 (.agg a.arr) rfl rfl (by kernel_rfl) (by kernel_rfl) (by kernel_rfl) (fun _ _ _ h => h) (by kernel_rfl) (fun _ h => exec_load24 rfl rfl h.one) hS ?_
  simp only [Act.put, List.setIfInBounds_toArray, List.set_cons_zero, List.set_cons_succ]
  refine held_call 2 14 16 #[(.agg a.arr), (.agg b.arr)] (.int .i64 2) rfl (by kernel_rfl) rfl (by kernel_rfl) (by kernel_rfl) (HX.out _) (fun _ h hb => h.below hb) hS (fun w102 hS => ?_)
  simp only [Act.put, List.setIfInBounds_toArray, List.set_cons_zero, List.set_cons_succ]
  refine held_call 5 17 16 #[(.agg b.arr), (.agg a.arr)] (.int .i64 2) rfl (by kernel_rfl) rfl (by kernel_rfl) (by kernel_rfl) (HY.out _) (fun _ h hb => h.below hb) hS (fun w105 hS => ?_)
  simp only [Act.put, List.setIfInBounds_toArray, List.set_cons_zero, List.set_cons_succ]
  refine held_take 6 7 (.int .i64 2) rfl rfl (by kernel_rfl) (by kernel_rfl) (by kernel_rfl) (fun _ _ _ h => h) (by kernel_rfl) (fun _ _ => rfl) hS ?_
  simp only [Act.put, List.setIfInBounds_toArray, List.set_cons_zero, List.set_cons_succ]
  refine held_take 7 8 (.int .i64 2) rfl rfl (by kernel_rfl) (by kernel_rfl) (by kernel_rfl) (fun _ _ _ h => h) (by kernel_rfl) (fun _ _ => rfl) hS ?_
  simp only [Act.put, List.setIfInBounds_toArray, List.set_cons_zero, List.set_cons_succ]
  refine wpAnyH_done (by kernel_rfl) ?_ _
  have HS1 := Lib.hid hS
  clear hS
  go_wp2_with fail
  go_ret
  exact ⟨rfl, HS1.out.old⟩

set_option maxHeartbeats 4000000 in
set_option maxRecDepth 100000 in
theorem same_f (a b : V) (n : Nat) (w : World) (hn : n < 256)
    (HX : Hid (∀ w, Calls Try.prog 16 #[.agg a.arr, .agg b.arr] w (Says (.int .i64 0) w))) (HY : Hid (∀ w, Calls Try.prog 16 #[.agg b.arr, .agg a.arr] w (Says (.int .i64 0) w)))
    (HE : Hid (V.eqB a b = true)) (HR : Hid (∀ w, Calls Try.prog 12 #[.agg a.arr, .int .i64 ((n : Int) % 16 + 1)] w (Says (.bool false) w))) :
    Calls Try.prog 10 #[.agg a.arr, .agg b.arr, .int .u8 (n : Int)] w (Says (.bool true) w) := by
  have hb1 := fun (v : V) (w : World) => box24 v w
  have HT := Lib.hid (two_new w a b)
  go_enter Try.func10, Try.ntmps10
  go_wp2_with fail
  clear hb1
  generalize (w.alloc (.cells a.arr 24)).alloc (.cells b.arr 24) = W at HT
  refine (alive_any _).mono ?_
  rintro e w1 ⟨rfl, hb⟩
  have HT1 := Lib.hid (HT.out.below hb)
  clear hb
  go_wp2_with fail
  refine wp_region_held_drew (S := fun w' => Two w w' a b) (by kernel_rfl) HT1.out.drew (fun hS => ?_)
  refine held_take 0 12 (.agg a.arr) rfl rfl (by kernel_rfl) (by kernel_rfl) (by kernel_rfl) (fun _ _ _ h => h) (by kernel_rfl) (fun _ h => exec_load24 rfl rfl h.one) hS ?_
  simp only [Act.put, List.setIfInBounds_toArray, List.set_cons_zero, List.set_cons_succ]
  refine held_take 1 13 (.agg b.arr) rfl rfl (by kernel_rfl) (by kernel_rfl) (by kernel_rfl) (fun _ _ _ h => h) (by kernel_rfl) (fun _ h => exec_load24 rfl rfl h.two) hS ?_
  simp only [Act.put, List.setIfInBounds_toArray, List.set_cons_zero, List.set_cons_succ]
  refine held_take 3 15 (.agg b.arr) rfl rfl (by kernel_rfl) (by kernel_rfl) (by kernel_rfl) (fun _ _ _ h => h) (by kernel_rfl) (fun _ h => exec_load24 rfl rfl h.two) hS ?_
  simp only [Act.put, List.setIfInBounds_toArray, List.set_cons_zero, List.set_cons_succ]
  refine held_take 4 16 (.agg a.arr) rfl rfl (by kernel_rfl) (by kernel_rfl) (by kernel_rfl) (fun _ _ _ h => h) (by kernel_rfl) (fun _ h => exec_load24 rfl rfl h.one) hS ?_
  simp only [Act.put, List.setIfInBounds_toArray, List.set_cons_zero, List.set_cons_succ]
  refine held_call 2 14 16 #[(.agg a.arr), (.agg b.arr)] (.int .i64 0) rfl (by kernel_rfl) rfl (by kernel_rfl) (by kernel_rfl) (HX.out _) (fun _ h hb => h.below hb) hS (fun w102 hS => ?_)
  simp only [Act.put, List.setIfInBounds_toArray, List.set_cons_zero, List.set_cons_succ]
  refine held_call 5 17 16 #[(.agg b.arr), (.agg a.arr)] (.int .i64 0) rfl (by kernel_rfl) rfl (by kernel_rfl) (by kernel_rfl) (HY.out _) (fun _ h hb => h.below hb) hS (fun w105 hS => ?_)
  simp only [Act.put, List.setIfInBounds_toArray, List.set_cons_zero, List.set_cons_succ]
  refine held_take 6 7 (.int .i64 0) rfl rfl (by kernel_rfl) (by kernel_rfl) (by kernel_rfl) (fun _ _ _ h => h) (by kernel_rfl) (fun _ _ => rfl) hS ?_
  simp only [Act.put, List.setIfInBounds_toArray, List.set_cons_zero, List.set_cons_succ]
  refine held_take 7 8 (.int .i64 0) rfl rfl (by kernel_rfl) (by kernel_rfl) (by kernel_rfl) (fun _ _ _ h => h) (by kernel_rfl) (fun _ _ => rfl) hS ?_
  simp only [Act.put, List.setIfInBounds_toArray, List.set_cons_zero, List.set_cons_succ]
  refine wpAnyH_done (by kernel_rfl) ?_ _
  have HS1 := Lib.hid hS
  clear hS
  go_wp2_with (first | (refine wpList_load24w (by kernel_rfl) rfl rfl HS1.out.one ?_) | (refine wpList_load24w (by kernel_rfl) rfl rfl HS1.out.two ?_) | (refine wpList_eql24 true (by kernel_rfl) rfl rfl rfl HE.out ?_))
  refine (HR.out _).mono ?_
  rintro e1 w3 ⟨rfl, hb⟩
  have HS2 := Lib.hid (HS1.out.below hb)
  clear hb
  go_wp2_with (fail)
  go_ret
  exact ⟨rfl, HS2.out.old⟩

set_option maxHeartbeats 4000000 in
set_option maxRecDepth 100000 in
theorem same_t (a b : V) (n : Nat) (w : World) (hn : n < 256)
    (HX : Hid (∀ w, Calls Try.prog 16 #[.agg a.arr, .agg b.arr] w (Says (.int .i64 0) w))) (HY : Hid (∀ w, Calls Try.prog 16 #[.agg b.arr, .agg a.arr] w (Says (.int .i64 0) w)))
    (HE : Hid (V.eqB a b = true)) (HR : Hid (∀ w, Calls Try.prog 12 #[.agg a.arr, .int .i64 ((n : Int) % 16 + 1)] w (Says (.bool true) w)))
    (HS : Hid (∀ w, Calls Try.prog 12 #[.agg a.arr, .int .i64 16] w (Says (.bool true) w))) :
    Calls Try.prog 10 #[.agg a.arr, .agg b.arr, .int .u8 (n : Int)] w (Says (.bool true) w) := by
  have hb1 := fun (v : V) (w : World) => box24 v w
  have HT := Lib.hid (two_new w a b)
  go_enter Try.func10, Try.ntmps10
  go_wp2_with fail
  clear hb1
  generalize (w.alloc (.cells a.arr 24)).alloc (.cells b.arr 24) = W at HT
  refine (alive_any _).mono ?_
  rintro e w1 ⟨rfl, hb⟩
  have HT1 := Lib.hid (HT.out.below hb)
  clear hb
  go_wp2_with fail
  refine wp_region_held_drew (S := fun w' => Two w w' a b) (by kernel_rfl) HT1.out.drew (fun hS => ?_)
  refine held_take 0 12 (.agg a.arr) rfl rfl (by kernel_rfl) (by kernel_rfl) (by kernel_rfl) (fun _ _ _ h => h) (by kernel_rfl) (fun _ h => exec_load24 rfl rfl h.one) hS ?_
  simp only [Act.put, List.setIfInBounds_toArray, List.set_cons_zero, List.set_cons_succ]
  refine held_take 1 13 (.agg b.arr) rfl rfl (by kernel_rfl) (by kernel_rfl) (by kernel_rfl) (fun _ _ _ h => h) (by kernel_rfl) (fun _ h => exec_load24 rfl rfl h.two) hS ?_
  simp only [Act.put, List.setIfInBounds_toArray, List.set_cons_zero, List.set_cons_succ]
  refine held_take 3 15 (.agg b.arr) rfl rfl (by kernel_rfl) (by kernel_rfl) (by kernel_rfl) (fun _ _ _ h => h) (by kernel_rfl) (fun _ h => exec_load24 rfl rfl h.two) hS ?_
  simp only [Act.put, List.setIfInBounds_toArray, List.set_cons_zero, List.set_cons_succ]
  refine held_take 4 16 (.agg a.arr) rfl rfl (by kernel_rfl) (by kernel_rfl) (by kernel_rfl) (fun _ _ _ h => h) (by kernel_rfl) (fun _ h => exec_load24 rfl rfl h.one) hS ?_
  simp only [Act.put, List.setIfInBounds_toArray, List.set_cons_zero, List.set_cons_succ]
  refine held_call 2 14 16 #[(.agg a.arr), (.agg b.arr)] (.int .i64 0) rfl (by kernel_rfl) rfl (by kernel_rfl) (by kernel_rfl) (HX.out _) (fun _ h hb => h.below hb) hS (fun w102 hS => ?_)
  simp only [Act.put, List.setIfInBounds_toArray, List.set_cons_zero, List.set_cons_succ]
  refine held_call 5 17 16 #[(.agg b.arr), (.agg a.arr)] (.int .i64 0) rfl (by kernel_rfl) rfl (by kernel_rfl) (by kernel_rfl) (HY.out _) (fun _ h hb => h.below hb) hS (fun w105 hS => ?_)
  simp only [Act.put, List.setIfInBounds_toArray, List.set_cons_zero, List.set_cons_succ]
  refine held_take 6 7 (.int .i64 0) rfl rfl (by kernel_rfl) (by kernel_rfl) (by kernel_rfl) (fun _ _ _ h => h) (by kernel_rfl) (fun _ _ => rfl) hS ?_
  simp only [Act.put, List.setIfInBounds_toArray, List.set_cons_zero, List.set_cons_succ]
  refine held_take 7 8 (.int .i64 0) rfl rfl (by kernel_rfl) (by kernel_rfl) (by kernel_rfl) (fun _ _ _ h => h) (by kernel_rfl) (fun _ _ => rfl) hS ?_
  simp only [Act.put, List.setIfInBounds_toArray, List.set_cons_zero, List.set_cons_succ]
  refine wpAnyH_done (by kernel_rfl) ?_ _
  have HS1 := Lib.hid hS
  clear hS
  go_wp2_with (first | (refine wpList_load24w (by kernel_rfl) rfl rfl HS1.out.one ?_) | (refine wpList_load24w (by kernel_rfl) rfl rfl HS1.out.two ?_) | (refine wpList_eql24 true (by kernel_rfl) rfl rfl rfl HE.out ?_))
  refine (HR.out _).mono ?_
  rintro e1 w3 ⟨rfl, hb⟩
  have HS2 := Lib.hid (HS1.out.below hb)
  clear hb
  go_wp2_with (first | (refine wpList_load24w (by kernel_rfl) rfl rfl HS2.out.one ?_) | (refine wpList_load24w (by kernel_rfl) rfl rfl HS2.out.two ?_) | (refine wpList_eql24 true (by kernel_rfl) rfl rfl rfl HE.out ?_))
  refine (HS.out _).mono ?_
  rintro e1 w4 ⟨rfl, hb⟩
  have HS3 := Lib.hid (HS2.out.below hb)
  clear hb
  go_wp2_with fail
  go_ret
  exact ⟨rfl, HS3.out.old⟩

set_option maxHeartbeats 4000000 in
set_option maxRecDepth 100000 in
theorem less_f (a b : V) (n : Nat) (w : World) (hn : n < 256)
    (HX : Hid (∀ w, Calls Try.prog 16 #[.agg a.arr, .agg b.arr] w (Says (.int .i64 (-1)) w))) (HY : Hid (∀ w, Calls Try.prog 16 #[.agg b.arr, .agg a.arr] w (Says (.int .i64 1) w)))
    (HE : Hid (V.eqB a b = false)) (HR : Hid (∀ w, Calls Try.prog 12 #[.agg a.arr, .int .i64 ((n : Int) % 16 + 1)] w (Says (.bool false) w))) :
    Calls Try.prog 10 #[.agg a.arr, .agg b.arr, .int .u8 (n : Int)] w (Says (.bool true) w) := by
  have hb1 := fun (v : V) (w : World) => box24 v w
  have HT := Lib.hid (two_new w a b)
  go_enter Try.func10, Try.ntmps10
  go_wp2_with fail
  clear hb1
  generalize (w.alloc (.cells a.arr 24)).alloc (.cells b.arr 24) = W at HT
  refine (alive_any _).mono ?_
  rintro e w1 ⟨rfl, hb⟩
  have HT1 := Lib.hid (HT.out.below hb)
  clear hb
  go_wp2_with fail
  refine wp_region_held_drew (S := fun w' => Two w w' a b) (by kernel_rfl) HT1.out.drew (fun hS => ?_)
  refine held_take 0 12 (.agg a.arr) rfl rfl (by kernel_rfl) (by kernel_rfl) (by kernel_rfl) (fun _ _ _ h => h) (by kernel_rfl) (fun _ h => exec_load24 rfl rfl h.one) hS ?_
  simp only [Act.put, List.setIfInBounds_toArray, List.set_cons_zero, List.set_cons_succ]
  refine held_take 1 13 (.agg b.arr) rfl rfl (by kernel_rfl) (by kernel_rfl) (by kernel_rfl) (fun _ _ _ h => h) (by kernel_rfl) (fun _ h => exec_load24 rfl rfl h.two) hS ?_
  simp only [Act.put, List.setIfInBounds_toArray, List.set_cons_zero, List.set_cons_succ]
  refine held_take 3 15 (.agg b.arr) rfl rfl (by kernel_rfl) (by kernel_rfl) (by kernel_rfl) (fun _ _ _ h => h) (by kernel_rfl) (fun _ h => exec_load24 rfl rfl h.two) hS ?_
  simp only [Act.put, List.setIfInBounds_toArray, List.set_cons_zero, List.set_cons_succ]
  refine held_take 4 16 (.agg a.arr) rfl rfl (by kernel_rfl) (by kernel_rfl) (by kernel_rfl) (fun _ _ _ h => h) (by kernel_rfl) (fun _ h => exec_load24 rfl rfl h.one) hS ?_
  simp only [Act.put, List.setIfInBounds_toArray, List.set_cons_zero, List.set_cons_succ]
  refine held_call 2 14 16 #[(.agg a.arr), (.agg b.arr)] (.int .i64 (-1)) rfl (by kernel_rfl) rfl (by kernel_rfl) (by kernel_rfl) (HX.out _) (fun _ h hb => h.below hb) hS (fun w102 hS => ?_)
  simp only [Act.put, List.setIfInBounds_toArray, List.set_cons_zero, List.set_cons_succ]
  refine held_call 5 17 16 #[(.agg b.arr), (.agg a.arr)] (.int .i64 1) rfl (by kernel_rfl) rfl (by kernel_rfl) (by kernel_rfl) (HY.out _) (fun _ h hb => h.below hb) hS (fun w105 hS => ?_)
  simp only [Act.put, List.setIfInBounds_toArray, List.set_cons_zero, List.set_cons_succ]
  refine held_take 6 7 (.int .i64 (-1)) rfl rfl (by kernel_rfl) (by kernel_rfl) (by kernel_rfl) (fun _ _ _ h => h) (by kernel_rfl) (fun _ _ => rfl) hS ?_
  simp only [Act.put, List.setIfInBounds_toArray, List.set_cons_zero, List.set_cons_succ]
  refine held_take 7 8 (.int .i64 1) rfl rfl (by kernel_rfl) (by kernel_rfl) (by kernel_rfl) (fun _ _ _ h => h) (by kernel_rfl) (fun _ _ => rfl) hS ?_
  simp only [Act.put, List.setIfInBounds_toArray, List.set_cons_zero, List.set_cons_succ]
  refine wpAnyH_done (by kernel_rfl) ?_ _
  have HS1 := Lib.hid hS
  clear hS
  go_wp2_with (first | (refine wpList_load24w (by kernel_rfl) rfl rfl HS1.out.one ?_) | (refine wpList_load24w (by kernel_rfl) rfl rfl HS1.out.two ?_) | (refine wpList_eql24 false (by kernel_rfl) rfl rfl rfl HE.out ?_))
  refine (HR.out _).mono ?_
  rintro e1 w3 ⟨rfl, hb⟩
  have HS2 := Lib.hid (HS1.out.below hb)
  clear hb
  go_wp2_with (fail)
  go_ret
  exact ⟨rfl, HS2.out.old⟩

set_option maxHeartbeats 4000000 in
set_option maxRecDepth 100000 in
theorem less_t (a b : V) (n : Nat) (w : World) (hn : n < 256)
    (HX : Hid (∀ w, Calls Try.prog 16 #[.agg a.arr, .agg b.arr] w (Says (.int .i64 (-1)) w))) (HY : Hid (∀ w, Calls Try.prog 16 #[.agg b.arr, .agg a.arr] w (Says (.int .i64 1) w)))
    (HE : Hid (V.eqB a b = false)) (HR : Hid (∀ w, Calls Try.prog 12 #[.agg a.arr, .int .i64 ((n : Int) % 16 + 1)] w (Says (.bool true) w)))
    (HS : Hid (∀ w, Calls Try.prog 12 #[.agg a.arr, .int .i64 16] w (Says (.bool true) w))) :
    Calls Try.prog 10 #[.agg a.arr, .agg b.arr, .int .u8 (n : Int)] w (Says (.bool true) w) := by
  have hb1 := fun (v : V) (w : World) => box24 v w
  have HT := Lib.hid (two_new w a b)
  go_enter Try.func10, Try.ntmps10
  go_wp2_with fail
  clear hb1
  generalize (w.alloc (.cells a.arr 24)).alloc (.cells b.arr 24) = W at HT
  refine (alive_any _).mono ?_
  rintro e w1 ⟨rfl, hb⟩
  have HT1 := Lib.hid (HT.out.below hb)
  clear hb
  go_wp2_with fail
  refine wp_region_held_drew (S := fun w' => Two w w' a b) (by kernel_rfl) HT1.out.drew (fun hS => ?_)
  refine held_take 0 12 (.agg a.arr) rfl rfl (by kernel_rfl) (by kernel_rfl) (by kernel_rfl) (fun _ _ _ h => h) (by kernel_rfl) (fun _ h => exec_load24 rfl rfl h.one) hS ?_
  simp only [Act.put, List.setIfInBounds_toArray, List.set_cons_zero, List.set_cons_succ]
  refine held_take 1 13 (.agg b.arr) rfl rfl (by kernel_rfl) (by kernel_rfl) (by kernel_rfl) (fun _ _ _ h => h) (by kernel_rfl) (fun _ h => exec_load24 rfl rfl h.two) hS ?_
  simp only [Act.put, List.setIfInBounds_toArray, List.set_cons_zero, List.set_cons_succ]
  refine held_take 3 15 (.agg b.arr) rfl rfl (by kernel_rfl) (by kernel_rfl) (by kernel_rfl) (fun _ _ _ h => h) (by kernel_rfl) (fun _ h => exec_load24 rfl rfl h.two) hS ?_
  simp only [Act.put, List.setIfInBounds_toArray, List.set_cons_zero, List.set_cons_succ]
  refine held_take 4 16 (.agg a.arr) rfl rfl (by kernel_rfl) (by kernel_rfl) (by kernel_rfl) (fun _ _ _ h => h) (by kernel_rfl) (fun _ h => exec_load24 rfl rfl h.one) hS ?_
  simp only [Act.put, List.setIfInBounds_toArray, List.set_cons_zero, List.set_cons_succ]
  refine held_call 2 14 16 #[(.agg a.arr), (.agg b.arr)] (.int .i64 (-1)) rfl (by kernel_rfl) rfl (by kernel_rfl) (by kernel_rfl) (HX.out _) (fun _ h hb => h.below hb) hS (fun w102 hS => ?_)
  simp only [Act.put, List.setIfInBounds_toArray, List.set_cons_zero, List.set_cons_succ]
  refine held_call 5 17 16 #[(.agg b.arr), (.agg a.arr)] (.int .i64 1) rfl (by kernel_rfl) rfl (by kernel_rfl) (by kernel_rfl) (HY.out _) (fun _ h hb => h.below hb) hS (fun w105 hS => ?_)
  simp only [Act.put, List.setIfInBounds_toArray, List.set_cons_zero, List.set_cons_succ]
  refine held_take 6 7 (.int .i64 (-1)) rfl rfl (by kernel_rfl) (by kernel_rfl) (by kernel_rfl) (fun _ _ _ h => h) (by kernel_rfl) (fun _ _ => rfl) hS ?_
  simp only [Act.put, List.setIfInBounds_toArray, List.set_cons_zero, List.set_cons_succ]
  refine held_take 7 8 (.int .i64 1) rfl rfl (by kernel_rfl) (by kernel_rfl) (by kernel_rfl) (fun _ _ _ h => h) (by kernel_rfl) (fun _ _ => rfl) hS ?_
  simp only [Act.put, List.setIfInBounds_toArray, List.set_cons_zero, List.set_cons_succ]
  refine wpAnyH_done (by kernel_rfl) ?_ _
  have HS1 := Lib.hid hS
  clear hS
  go_wp2_with (first | (refine wpList_load24w (by kernel_rfl) rfl rfl HS1.out.one ?_) | (refine wpList_load24w (by kernel_rfl) rfl rfl HS1.out.two ?_) | (refine wpList_eql24 false (by kernel_rfl) rfl rfl rfl HE.out ?_))
  refine (HR.out _).mono ?_
  rintro e1 w3 ⟨rfl, hb⟩
  have HS2 := Lib.hid (HS1.out.below hb)
  clear hb
  go_wp2_with (first | (refine wpList_load24w (by kernel_rfl) rfl rfl HS2.out.one ?_) | (refine wpList_load24w (by kernel_rfl) rfl rfl HS2.out.two ?_) | (refine wpList_eql24 false (by kernel_rfl) rfl rfl rfl HE.out ?_))
  refine (HS.out _).mono ?_
  rintro e1 w4 ⟨rfl, hb⟩
  have HS3 := Lib.hid (HS2.out.below hb)
  clear hb
  go_wp2_with fail
  go_ret
  exact ⟨rfl, HS3.out.old⟩

set_option maxHeartbeats 4000000 in
set_option maxRecDepth 100000 in
theorem more_f (a b : V) (n : Nat) (w : World) (hn : n < 256)
    (HX : Hid (∀ w, Calls Try.prog 16 #[.agg a.arr, .agg b.arr] w (Says (.int .i64 1) w))) (HY : Hid (∀ w, Calls Try.prog 16 #[.agg b.arr, .agg a.arr] w (Says (.int .i64 (-1)) w)))
    (HE : Hid (V.eqB a b = false)) (HR : Hid (∀ w, Calls Try.prog 12 #[.agg a.arr, .int .i64 ((n : Int) % 16 + 1)] w (Says (.bool false) w))) :
    Calls Try.prog 10 #[.agg a.arr, .agg b.arr, .int .u8 (n : Int)] w (Says (.bool true) w) := by
  have hb1 := fun (v : V) (w : World) => box24 v w
  have HT := Lib.hid (two_new w a b)
  go_enter Try.func10, Try.ntmps10
  go_wp2_with fail
  clear hb1
  generalize (w.alloc (.cells a.arr 24)).alloc (.cells b.arr 24) = W at HT
  refine (alive_any _).mono ?_
  rintro e w1 ⟨rfl, hb⟩
  have HT1 := Lib.hid (HT.out.below hb)
  clear hb
  go_wp2_with fail
  refine wp_region_held_drew (S := fun w' => Two w w' a b) (by kernel_rfl) HT1.out.drew (fun hS => ?_)
  refine held_take 0 12 (.agg a.arr) rfl rfl (by kernel_rfl) (by kernel_rfl) (by kernel_rfl) (fun _ _ _ h => h) (by kernel_rfl) (fun _ h => exec_load24 rfl rfl h.one) hS ?_
  simp only [Act.put, List.setIfInBounds_toArray, List.set_cons_zero, List.set_cons_succ]
  refine held_take 1 13 (.agg b.arr) rfl rfl (by kernel_rfl) (by kernel_rfl) (by kernel_rfl) (fun _ _ _ h => h) (by kernel_rfl) (fun _ h => exec_load24 rfl rfl h.two) hS ?_
  simp only [Act.put, List.setIfInBounds_toArray, List.set_cons_zero, List.set_cons_succ]
  refine held_take 3 15 (.agg b.arr) rfl rfl (by kernel_rfl) (by kernel_rfl) (by kernel_rfl) (fun _ _ _ h => h) (by kernel_rfl) (fun _ h => exec_load24 rfl rfl h.two) hS ?_
  simp only [Act.put, List.setIfInBounds_toArray, List.set_cons_zero, List.set_cons_succ]
  refine held_take 4 16 (.agg a.arr) rfl rfl (by kernel_rfl) (by kernel_rfl) (by kernel_rfl) (fun _ _ _ h => h) (by kernel_rfl) (fun _ h => exec_load24 rfl rfl h.one) hS ?_
  simp only [Act.put, List.setIfInBounds_toArray, List.set_cons_zero, List.set_cons_succ]
  refine held_call 2 14 16 #[(.agg a.arr), (.agg b.arr)] (.int .i64 1) rfl (by kernel_rfl) rfl (by kernel_rfl) (by kernel_rfl) (HX.out _) (fun _ h hb => h.below hb) hS (fun w102 hS => ?_)
  simp only [Act.put, List.setIfInBounds_toArray, List.set_cons_zero, List.set_cons_succ]
  refine held_call 5 17 16 #[(.agg b.arr), (.agg a.arr)] (.int .i64 (-1)) rfl (by kernel_rfl) rfl (by kernel_rfl) (by kernel_rfl) (HY.out _) (fun _ h hb => h.below hb) hS (fun w105 hS => ?_)
  simp only [Act.put, List.setIfInBounds_toArray, List.set_cons_zero, List.set_cons_succ]
  refine held_take 6 7 (.int .i64 1) rfl rfl (by kernel_rfl) (by kernel_rfl) (by kernel_rfl) (fun _ _ _ h => h) (by kernel_rfl) (fun _ _ => rfl) hS ?_
  simp only [Act.put, List.setIfInBounds_toArray, List.set_cons_zero, List.set_cons_succ]
  refine held_take 7 8 (.int .i64 (-1)) rfl rfl (by kernel_rfl) (by kernel_rfl) (by kernel_rfl) (fun _ _ _ h => h) (by kernel_rfl) (fun _ _ => rfl) hS ?_
  simp only [Act.put, List.setIfInBounds_toArray, List.set_cons_zero, List.set_cons_succ]
  refine wpAnyH_done (by kernel_rfl) ?_ _
  have HS1 := Lib.hid hS
  clear hS
  go_wp2_with (first | (refine wpList_load24w (by kernel_rfl) rfl rfl HS1.out.one ?_) | (refine wpList_load24w (by kernel_rfl) rfl rfl HS1.out.two ?_) | (refine wpList_eql24 false (by kernel_rfl) rfl rfl rfl HE.out ?_))
  refine (HR.out _).mono ?_
  rintro e1 w3 ⟨rfl, hb⟩
  have HS2 := Lib.hid (HS1.out.below hb)
  clear hb
  go_wp2_with (fail)
  go_ret
  exact ⟨rfl, HS2.out.old⟩

set_option maxHeartbeats 4000000 in
set_option maxRecDepth 100000 in
theorem more_t (a b : V) (n : Nat) (w : World) (hn : n < 256)
    (HX : Hid (∀ w, Calls Try.prog 16 #[.agg a.arr, .agg b.arr] w (Says (.int .i64 1) w))) (HY : Hid (∀ w, Calls Try.prog 16 #[.agg b.arr, .agg a.arr] w (Says (.int .i64 (-1)) w)))
    (HE : Hid (V.eqB a b = false)) (HR : Hid (∀ w, Calls Try.prog 12 #[.agg a.arr, .int .i64 ((n : Int) % 16 + 1)] w (Says (.bool true) w)))
    (HS : Hid (∀ w, Calls Try.prog 12 #[.agg a.arr, .int .i64 16] w (Says (.bool true) w))) :
    Calls Try.prog 10 #[.agg a.arr, .agg b.arr, .int .u8 (n : Int)] w (Says (.bool true) w) := by
  have hb1 := fun (v : V) (w : World) => box24 v w
  have HT := Lib.hid (two_new w a b)
  go_enter Try.func10, Try.ntmps10
  go_wp2_with fail
  clear hb1
  generalize (w.alloc (.cells a.arr 24)).alloc (.cells b.arr 24) = W at HT
  refine (alive_any _).mono ?_
  rintro e w1 ⟨rfl, hb⟩
  have HT1 := Lib.hid (HT.out.below hb)
  clear hb
  go_wp2_with fail
  refine wp_region_held_drew (S := fun w' => Two w w' a b) (by kernel_rfl) HT1.out.drew (fun hS => ?_)
  refine held_take 0 12 (.agg a.arr) rfl rfl (by kernel_rfl) (by kernel_rfl) (by kernel_rfl) (fun _ _ _ h => h) (by kernel_rfl) (fun _ h => exec_load24 rfl rfl h.one) hS ?_
  simp only [Act.put, List.setIfInBounds_toArray, List.set_cons_zero, List.set_cons_succ]
  refine held_take 1 13 (.agg b.arr) rfl rfl (by kernel_rfl) (by kernel_rfl) (by kernel_rfl) (fun _ _ _ h => h) (by kernel_rfl) (fun _ h => exec_load24 rfl rfl h.two) hS ?_
  simp only [Act.put, List.setIfInBounds_toArray, List.set_cons_zero, List.set_cons_succ]
  refine held_take 3 15 (.agg b.arr) rfl rfl (by kernel_rfl) (by kernel_rfl) (by kernel_rfl) (fun _ _ _ h => h) (by kernel_rfl) (fun _ h => exec_load24 rfl rfl h.two) hS ?_
  simp only [Act.put, List.setIfInBounds_toArray, List.set_cons_zero, List.set_cons_succ]
  refine held_take 4 16 (.agg a.arr) rfl rfl (by kernel_rfl) (by kernel_rfl) (by kernel_rfl) (fun _ _ _ h => h) (by kernel_rfl) (fun _ h => exec_load24 rfl rfl h.one) hS ?_
  simp only [Act.put, List.setIfInBounds_toArray, List.set_cons_zero, List.set_cons_succ]
  refine held_call 2 14 16 #[(.agg a.arr), (.agg b.arr)] (.int .i64 1) rfl (by kernel_rfl) rfl (by kernel_rfl) (by kernel_rfl) (HX.out _) (fun _ h hb => h.below hb) hS (fun w102 hS => ?_)
  simp only [Act.put, List.setIfInBounds_toArray, List.set_cons_zero, List.set_cons_succ]
  refine held_call 5 17 16 #[(.agg b.arr), (.agg a.arr)] (.int .i64 (-1)) rfl (by kernel_rfl) rfl (by kernel_rfl) (by kernel_rfl) (HY.out _) (fun _ h hb => h.below hb) hS (fun w105 hS => ?_)
  simp only [Act.put, List.setIfInBounds_toArray, List.set_cons_zero, List.set_cons_succ]
  refine held_take 6 7 (.int .i64 1) rfl rfl (by kernel_rfl) (by kernel_rfl) (by kernel_rfl) (fun _ _ _ h => h) (by kernel_rfl) (fun _ _ => rfl) hS ?_
  simp only [Act.put, List.setIfInBounds_toArray, List.set_cons_zero, List.set_cons_succ]
  refine held_take 7 8 (.int .i64 (-1)) rfl rfl (by kernel_rfl) (by kernel_rfl) (by kernel_rfl) (fun _ _ _ h => h) (by kernel_rfl) (fun _ _ => rfl) hS ?_
  simp only [Act.put, List.setIfInBounds_toArray, List.set_cons_zero, List.set_cons_succ]
  refine wpAnyH_done (by kernel_rfl) ?_ _
  have HS1 := Lib.hid hS
  clear hS
  go_wp2_with (first | (refine wpList_load24w (by kernel_rfl) rfl rfl HS1.out.one ?_) | (refine wpList_load24w (by kernel_rfl) rfl rfl HS1.out.two ?_) | (refine wpList_eql24 false (by kernel_rfl) rfl rfl rfl HE.out ?_))
  refine (HR.out _).mono ?_
  rintro e1 w3 ⟨rfl, hb⟩
  have HS2 := Lib.hid (HS1.out.below hb)
  clear hb
  go_wp2_with (first | (refine wpList_load24w (by kernel_rfl) rfl rfl HS2.out.one ?_) | (refine wpList_load24w (by kernel_rfl) rfl rfl HS2.out.two ?_) | (refine wpList_eql24 false (by kernel_rfl) rfl rfl rfl HE.out ?_))
  refine (HS.out _).mono ?_
  rintro e1 w4 ⟨rfl, hb⟩
  have HS3 := Lib.hid (HS2.out.below hb)
  clear hb
  go_wp2_with fail
  go_ret
  exact ⟨rfl, HS3.out.old⟩

theorem walk (a b : V) (n : Nat) (w : World) (hn : n < 256) : Calls Try.prog 10 #[.agg a.arr, .agg b.arr, .int .u8 (n : Int)] w (Says (.bool true) w) := by
  have HX := Lib.hid (fun w => order_any a b w)
  have HY := Lib.hid (fun w => order_any b a w)
  have HR := Lib.hid (fun w => right_any a ((n : Int) % 16 + 1) w (by omega) (by omega))
  have HS := Lib.hid (fun w => right_any a 16 w (by omega) (by omega))
  have hm := right_more a ((n : Int) % 16 + 1)
  rcases flip_cases a b with ⟨h1, h2⟩ | ⟨h1, h2, h3⟩ | ⟨h1, h2, h3⟩ | ⟨h1, h2, h3⟩
  · rw [h1] at HX
    rw [h2] at HY
    exact unlike a b n w hn HX HY
  all_goals
    rw [h1] at HX
    rw [h2] at HY
    cases hp : V.rightB a ((n : Int) % 16 + 1)
    · rw [hp] at HR
      first
        | exact same_f a b n w hn HX HY (Lib.hid h3) HR
        | exact less_f a b n w hn HX HY (Lib.hid h3) HR
        | exact more_f a b n w hn HX HY (Lib.hid h3) HR
    · rw [hp] at HR
      rw [hm hp] at HS
      first
        | exact same_t a b n w hn HX HY (Lib.hid h3) HR HS
        | exact less_t a b n w hn HX HY (Lib.hid h3) HR HS
        | exact more_t a b n w hn HX HY (Lib.hid h3) HR HS

set_option maxRecDepth 100000 in
theorem lifted (os : Os) (started : os.Started) (H : Type) (enc : TypeId × Value → H) :
    ReturnsInHanded {} Try.checked os 10 .any (Rows.vecFlipSpec.pre6 enc Try.prog Try.f10 Rows.vecFlipRow.domain false) (Rows.vecFlipSpec.post enc Try.prog Try.f10 false true false false) := by
  refine returnsInHanded_of_change (C := Try.checked) own started (by kernel_rfl) Try.func10
    (ChangeSpec.witness6 (enc := enc) (C := Try.checked) false ⟨#[], #[.agg #[.int .u32 0, .int .u32 0, .int .u32 0, .int .u32 0, .int .u32 0, .int .u32 0, .int .u32 0, .int .u32 0, .int .u32 0, .int .u32 0, .int .u32 0, .int .u32 0, .int .u32 0, .int .u32 0, .int .u32 0, .int .u32 0], .agg #[.int .u32 0, .int .u32 0, .int .u32 0, .int .u32 0, .int .u32 0, .int .u32 0, .int .u32 0, .int .u32 0, .int .u32 0, .int .u32 0, .int .u32 0, .int .u32 0, .int .u32 0, .int .u32 0, .int .u32 0, .int .u32 0], .int .u8 0], []⟩ 8 (by kernel_rfl) (by kernel_rfl) (by kernel_rfl) (by kernel_rfl)) ?_
  intro W base args ds gs before hval0 hW hcnd _
  have hval : ∀ (j : Nat) t v, Try.f10.params[j]? = some t → args[j]? = some v → Value.okWide Try.prog W .any base t v := hval0
  have hW' := hW
  obtain ⟨p, q, hA0, hV, rfl, hfz, hnd⟩ := hW
  have hA : DataW.TrodAll enc Try.prog W 0 (fun _ => true) true Try.f10.params.toList args.toList ds p := hA0
  rw [Try.params10] at hA hval
  obtain ⟨v0, v1, v2, d0, d1, d2, p0, p1, p2, rfl, rfl, rfl, h0, h1, h2⟩ := trodAll_three hA
  obtain ⟨rfl, rfl⟩ := trodVars_none hV
  have lt0 : ∀ x ∈ p0, x.block < W.heap.size := by obtain ⟨m, hm⟩ := h0; exact DataW.trod_lt m _ _ _ hm
  obtain ⟨a0, rfl⟩ := vec_of (hval 0 24 v0 rfl rfl) h0
  have lt1 : ∀ x ∈ p1, x.block < W.heap.size := by obtain ⟨m, hm⟩ := h1; exact DataW.trod_lt m _ _ _ hm
  obtain ⟨a1, rfl⟩ := vec_of (hval 1 24 v1 rfl rfl) h1
  obtain ⟨z2, rfl, rfl, rfl, w2⟩ := open_int Try.underlying5 (hval 2 5 v2 rfl rfl) h2
  have c2 := bounds_u8 w2
  obtain ⟨a2, rfl⟩ := Int.eq_ofNat_of_zero_le c2.1
  clear hA0 hval0
  refine (walk a0 a1 a2 W (by omega)).mono fun e W' ⟨he, bel⟩ => ?_
  subst he
  exact ⟨_, rfl, _, _, _, [], _, [], hW', trodAll_mk1 (shut_bool Try.underlying4 _), trodAll_mk3 (Below.trod laidOut (by kernel_rfl) (of_decide_eq_true (by kernel_rfl)) h0 bel lt0) (Below.trod laidOut (by kernel_rfl) (of_decide_eq_true (by kernel_rfl)) h1 bel lt1) (shut_int Try.underlying5 w2), rfl, bel.frame _, fun h => by cases h⟩
end VecFlip

theorem vecFlip_proved : Rows.VecFlipSaid :=
  OpenClaim.holds_of_wide 10 Try.f10 rfl rfl rfl rfl rfl rfl rfl ⟨rfl, rfl, rfl, rfl, rfl⟩ rfl rfl rfl rfl rfl (by kernel_rfl) Try.func10 (by kernel_rfl)
    (of_decide_eq_true (by kernel_rfl)) (by unfold Func.isWrapper; first | (rw [if_pos (by decide +kernel)]; kernel_rfl) | (rw [if_neg (by decide +kernel)]; exact ⟨rfl, rfl⟩))
    (fun os started H enc _ => VecFlip.lifted os started H enc)
#print axioms vecFlip_proved
end Go.Proofs.Ytdkdcjmkhldmlaa
