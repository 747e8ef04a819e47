/- VecDots: whether a vector means any operation, and what it is with one more, is the document's, or refused. No condition. -/
import Derived.Test.YtdkdcjmkhldmlaaLaw
namespace Go.Proofs.Ytdkdcjmkhldmlaa
open Go.ChangeShapes Go.WideShapes Go.ChangeAt Go.RowKit

namespace VecDots
set_option maxHeartbeats 4000000 in
set_option maxRecDepth 100000 in
theorem walk (v : V) (r s : Nat) (w : World) (hr : r < 256) (hs : s < 4294967296) : Calls Try.prog 5 #[.agg v.arr, dotV r s] w (Says (.bool true) w) := by
  have HN := Lib.hid (fun w => next_any v r s w hr hs)
  have HM := Lib.hid (fun w => rnext_any v r s w hr hs)
  have HA := Lib.hid (fun w => has_any v r s w hr hs)
  have HB := Lib.hid (fun w => rhas_any v r s w hr hs)
  generalize V.nextV v r s = x at HN HM
  generalize V.nextE v r s = e at HN HM
  generalize V.hasB v r s = hv at HA HB
  obtain ⟨z, hz⟩ : ∃ z, V.zero = z := ⟨_, rfl⟩
  have HZ := Lib.hid hz
  clear hz
  have hb1 := fun (v : V) (w : World) => box24 v w
  have HT := Lib.hid (vdot_new w v r s)
  go_enter Try.func5, Try.ntmps5
  go_wp2_with fail
  clear hb1
  generalize (w.alloc (.cells v.arr 24)).alloc (.cells #[.int .u8 (r : Int), .int .u32 (s : Int)] 34) = W at HT
  refine (alive_any _).mono ?_
  rintro e w1 ⟨rfl, hb⟩
  have HT1 := Lib.hid (HT.out.below hb)
  clear hb
  have c1 := HT1.out.rep
  have c2 := HT1.out.seq
  go_wp2_with (first | (refine wpList_load24w (by kernel_rfl) rfl rfl HT1.out.one ?_) | (refine wpList_alloc24 HZ.out rfl rfl ?_) | (refine wpList_stop rfl ?_))
  refine (HN.out _).mono ?_
  rintro e1 w2 ⟨rfl, hb⟩
  have HT2 := Lib.hid (HT1.out.below hb)
  clear hb c1 c2
  go_wp2_with (first | (refine wpList_load24w (by kernel_rfl) rfl rfl HT2.out.one ?_) | (refine wpList_alloc24 HZ.out rfl rfl ?_) | (refine wpList_stop rfl ?_))
  refine ⟨?_⟩
  refine wpList_store24 rfl rfl rfl rfl (Blk.new w2 24 z.arr) ?_
  have HX := Lib.hid (laid_blk w2 z x)
  have HT3 := Lib.hid (HT2.out.below (laid_old w2 z x))
  generalize (w2.alloc (.cells z.arr 24)).setRow w2.heap.size x.arr = w3 at HX HT3
  generalize w2.heap.size = gx at HX
  have c1 := HT3.out.rep
  have c2 := HT3.out.seq
  go_wp2_with (first | (refine wpList_load24w (by kernel_rfl) rfl rfl HT3.out.one ?_) | (refine wpList_alloc24 HZ.out rfl rfl ?_) | (refine wpList_stop rfl ?_))
  refine (HM.out _).mono ?_
  rintro e1 w4 ⟨rfl, hb⟩
  have HT4 := Lib.hid (HT3.out.below hb)
  have HX4 := Lib.hid (HX.out.below hb)
  clear hb c1 c2
  go_wp2_with (first | (refine wpList_load24w (by kernel_rfl) rfl rfl HT4.out.one ?_) | (refine wpList_alloc24 HZ.out rfl rfl ?_) | (refine wpList_stop rfl ?_))
  refine ⟨?_⟩
  refine wpList_store24 rfl rfl rfl rfl (Blk.new w4 24 z.arr) ?_
  have HY := Lib.hid (laid_blk w4 z x)
  have HX5 := Lib.hid (HX4.out.below (laid_old w4 z x))
  have HT5 := Lib.hid (HT4.out.below (laid_old w4 z x))
  generalize (w4.alloc (.cells z.arr 24)).setRow w4.heap.size x.arr = w5 at HY HX5 HT5
  generalize w4.heap.size = gy at HY
  go_wp2_with fail
  refine wp_region_held_drew (S := fun w' => VDot w w' v r s ∧ Blk w' gx 24 x.arr ∧ Blk w' gy 24 x.arr) (by kernel_rfl) ⟨HT5.out.drew, HX5.out, HY.out⟩ (fun hS => ?_)
  refine held_take 0 23 (.agg v.arr) rfl rfl (by kernel_rfl) (by kernel_rfl) (by kernel_rfl) (fun _ _ _ h => h) (by kernel_rfl) (fun _ h => exec_load24 rfl rfl h.1.one) hS ?_
  simp only [Act.put, List.setIfInBounds_toArray, List.set_cons_zero, List.set_cons_succ]
  refine held_take 1 24 (dotV r s) rfl rfl (by kernel_rfl) (by kernel_rfl) (by kernel_rfl) (fun _ _ _ h => h) (by kernel_rfl) (fun _ h => exec_load34 rfl rfl h.1.dot) hS ?_
  simp only [Act.put, List.setIfInBounds_toArray, List.set_cons_zero, List.set_cons_succ]
  refine held_take 3 26 (.agg v.arr) rfl rfl (by kernel_rfl) (by kernel_rfl) (by kernel_rfl) (fun _ _ _ h => h) (by kernel_rfl) (fun _ h => exec_load24 rfl rfl h.1.one) hS ?_
  simp only [Act.put, List.setIfInBounds_toArray, List.set_cons_zero, List.set_cons_succ]
  refine held_take 4 27 (dotV r s) rfl rfl (by kernel_rfl) (by kernel_rfl) (by kernel_rfl) (fun _ _ _ h => h) (by kernel_rfl) (fun _ h => exec_load34 rfl rfl h.1.dot) hS ?_
  simp only [Act.put, List.setIfInBounds_toArray, List.set_cons_zero, List.set_cons_succ]
  refine held_call 2 25 26 #[(.agg v.arr), (dotV r s)] (.bool hv) rfl (by kernel_rfl) rfl (by kernel_rfl) (by kernel_rfl) (HA.out _) (fun _ h hb => ⟨h.1.below hb, h.2.1.below hb, h.2.2.below hb⟩) hS (fun w102 hS => ?_)
  simp only [Act.put, List.setIfInBounds_toArray, List.set_cons_zero, List.set_cons_succ]
  refine held_call 5 28 27 #[(.agg v.arr), (dotV r s)] (.bool hv) rfl (by kernel_rfl) rfl (by kernel_rfl) (by kernel_rfl) (HB.out _) (fun _ h hb => ⟨h.1.below hb, h.2.1.below hb, h.2.2.below hb⟩) hS (fun w105 hS => ?_)
  simp only [Act.put, List.setIfInBounds_toArray, List.set_cons_zero, List.set_cons_succ]
  refine held_take 6 29 (.bool true) rfl rfl (by kernel_rfl) (by kernel_rfl) (by kernel_rfl) (fun _ _ _ h => h) (by kernel_rfl) (fun _ _ => exec_eqlB (by kernel_rfl) rfl rfl rfl (by simp)) hS ?_
  simp only [Act.put, List.setIfInBounds_toArray, List.set_cons_zero, List.set_cons_succ]
  refine held_take 7 30 (.bool true) rfl rfl (by kernel_rfl) (by kernel_rfl) (by kernel_rfl) (fun _ _ _ h => h) (by kernel_rfl) (fun _ _ => rfl) hS ?_
  simp only [Act.put, List.setIfInBounds_toArray, List.set_cons_zero, List.set_cons_succ]
  refine held_take 8 31 (.agg x.arr) rfl rfl (by kernel_rfl) (by kernel_rfl) (by kernel_rfl) (fun _ _ _ h => h) (by kernel_rfl) (fun _ h => exec_load24 rfl rfl h.2.1) hS ?_
  simp only [Act.put, List.setIfInBounds_toArray, List.set_cons_zero, List.set_cons_succ]
  refine held_take 9 32 (.agg x.arr) rfl rfl (by kernel_rfl) (by kernel_rfl) (by kernel_rfl) (fun _ _ _ h => h) (by kernel_rfl) (fun _ h => exec_load24 rfl rfl h.2.2) hS ?_
  simp only [Act.put, List.setIfInBounds_toArray, List.set_cons_zero, List.set_cons_succ]
  refine held_take 10 33 (.bool true) rfl rfl (by kernel_rfl) (by kernel_rfl) (by kernel_rfl) (fun _ _ _ h => h) (by kernel_rfl) (fun _ _ => exec_eql24 rfl rfl rfl (by simp [V.eqB])) hS ?_
  simp only [Act.put, List.setIfInBounds_toArray, List.set_cons_zero, List.set_cons_succ]
  refine held_take 11 34 (.bool true) rfl rfl (by kernel_rfl) (by kernel_rfl) (by kernel_rfl) (fun _ _ _ h => h) (by kernel_rfl) (fun _ _ => rfl) hS ?_
  simp only [Act.put, List.setIfInBounds_toArray, List.set_cons_zero, List.set_cons_succ]
  refine held_take 12 35 (.bool true) rfl rfl (by kernel_rfl) (by kernel_rfl) (by kernel_rfl) (fun _ _ _ h => h) (by kernel_rfl) (fun _ _ => rfl) hS ?_
  simp only [Act.put, List.setIfInBounds_toArray, List.set_cons_zero, List.set_cons_succ]
  refine held_take 13 36 (.int .i64 (e : Int)) rfl rfl (by kernel_rfl) (by kernel_rfl) (by kernel_rfl) (fun _ _ _ h => h) (by kernel_rfl) (fun _ _ => rfl) hS ?_
  simp only [Act.put, List.setIfInBounds_toArray, List.set_cons_zero, List.set_cons_succ]
  refine held_take 14 37 (.int .i64 (e : Int)) rfl rfl (by kernel_rfl) (by kernel_rfl) (by kernel_rfl) (fun _ _ _ h => h) (by kernel_rfl) (fun _ _ => rfl) hS ?_
  simp only [Act.put, List.setIfInBounds_toArray, List.set_cons_zero, List.set_cons_succ]
  refine held_take 15 38 (.bool true) rfl rfl (by kernel_rfl) (by kernel_rfl) (by kernel_rfl) (fun _ _ _ h => h) (by kernel_rfl) (fun _ _ => exec_eqlI trivial rfl rfl rfl (by simp)) hS ?_
  simp only [Act.put, List.setIfInBounds_toArray, List.set_cons_zero, List.set_cons_succ]
  refine held_take 16 39 (.bool true) rfl rfl (by kernel_rfl) (by kernel_rfl) (by kernel_rfl) (fun _ _ _ h => h) (by kernel_rfl) (fun _ _ => rfl) hS ?_
  simp only [Act.put, List.setIfInBounds_toArray, List.set_cons_zero, List.set_cons_succ]
  refine held_take 17 4 (.bool true) rfl rfl (by kernel_rfl) (by kernel_rfl) (by kernel_rfl) (fun _ _ _ h => h) (by kernel_rfl) (fun _ _ => rfl) hS ?_
  simp only [Act.put, List.setIfInBounds_toArray, List.set_cons_zero, List.set_cons_succ]
  refine wpAnyH_done (by kernel_rfl) ?_ _
  go_wp2_with fail
  go_ret
  exact ⟨rfl, hS.1.old⟩

set_option maxRecDepth 100000 in
theorem lifted (os : Os) (started : os.Started) (H : Type) (enc : TypeId × Value → H) :
    ReturnsInHanded {} Try.checked os 5 .any (Rows.vecDotsSpec.pre6 enc Try.prog Try.f5 Rows.vecDotsRow.domain false) (Rows.vecDotsSpec.post enc Try.prog Try.f5 false true false false) := by
  refine returnsInHanded_of_change (C := Try.checked) own started (by kernel_rfl) Try.func5
    (ChangeSpec.witness6 (enc := enc) (C := Try.checked) false ⟨#[], #[.agg #[.int .u32 0, .int .u32 0, .int .u32 0, .int .u32 0, .int .u32 0, .int .u32 0, .int .u32 0, .int .u32 0, .int .u32 0, .int .u32 0, .int .u32 0, .int .u32 0, .int .u32 0, .int .u32 0, .int .u32 0, .int .u32 0], .agg #[.int .u8 0, .int .u32 0]], []⟩ 8 (by kernel_rfl) (by kernel_rfl) (by kernel_rfl) (by kernel_rfl)) ?_
  intro W base args ds gs before hval0 hW hcnd _
  have hval : ∀ (j : Nat) t v, Try.f5.params[j]? = some t → args[j]? = some v → Value.okWide Try.prog W .any base t v := hval0
  have hW' := hW
  obtain ⟨p, q, hA0, hV, rfl, hfz, hnd⟩ := hW
  have hA : DataW.TrodAll enc Try.prog W 0 (fun _ => true) true Try.f5.params.toList args.toList ds p := hA0
  rw [Try.params5] at hA hval
  obtain ⟨v0, v1, d0, d1, p0, p1, rfl, rfl, rfl, h0, h1⟩ := trodAll_two hA
  obtain ⟨rfl, rfl⟩ := trodVars_none hV
  have lt0 : ∀ x ∈ p0, x.block < W.heap.size := by obtain ⟨m, hm⟩ := h0; exact DataW.trod_lt m _ _ _ hm
  obtain ⟨a0, rfl⟩ := vec_of (hval 0 24 v0 rfl rfl) h0
  have lt1 : ∀ x ∈ p1, x.block < W.heap.size := by obtain ⟨m, hm⟩ := h1; exact DataW.trod_lt m _ _ _ hm
  obtain ⟨r1, s1, hr1, hs1, rfl⟩ := dot_of (hval 1 34 v1 rfl rfl) h1
  clear hA0 hval0
  refine (walk a0 r1 s1 W hr1 hs1).mono fun e W' ⟨he, bel⟩ => ?_
  subst he
  exact ⟨_, rfl, _, _, _, [], _, [], hW', trodAll_mk1 (shut_bool Try.underlying4 _), trodAll_mk2 (Below.trod laidOut (by kernel_rfl) (of_decide_eq_true (by kernel_rfl)) h0 bel lt0) (Below.trod laidOut (by kernel_rfl) (of_decide_eq_true (by kernel_rfl)) h1 bel lt1), rfl, bel.frame _, fun h => by cases h⟩
end VecDots

theorem vecDots_proved : Rows.VecDotsSaid :=
  OpenClaim.holds_of_wide 5 Try.f5 rfl rfl rfl rfl rfl rfl rfl ⟨rfl, rfl, rfl, rfl, rfl⟩ rfl rfl rfl rfl rfl (by kernel_rfl) Try.func5 (by kernel_rfl)
    (of_decide_eq_true (by kernel_rfl)) (by unfold Func.isWrapper; first | (rw [if_pos (by decide +kernel)]; kernel_rfl) | (rw [if_neg (by decide +kernel)]; exact ⟨rfl, rfl⟩))
    (fun os started H enc _ => VecDots.lifted os started H enc)
#print axioms vecDots_proved
end Go.Proofs.Ytdkdcjmkhldmlaa
