/- DotsBegin: a set of what a vector means has just that, and nothing is missing. No condition. -/
import Derived.Test.YtkamldmcjegjgaaLaw
namespace Go.Proofs.Ytkamldmcjegjgaa
open Go.ChangeShapes Go.WideShapes Go.ChangeAt Go.RowKit

namespace DotsBegin
/-- What the law has laid down, and the set. -/
structure Bg (w W : World) (p m : Nat) (v : V) (r s : Nat) : Prop where
  grp : Grp W p m v []
  one : Blk W w.heap.size 24 v.arr
  dot : Blk W (w.heap.size + 1) 34 #[.int .u8 (r : Int), .int .u32 (s : Int)]
  old : Below w.heap.size w W
theorem Bg.below {w W W' : World} {p m : Nat} {v : V} {r s : Nat} (h : Bg w W p m v r s) (hb : Below W.heap.size W W') : Bg w W' p m v r s := ⟨h.grp.below hb, h.one.below hb, h.dot.below hb, h.old.trans (hb.mono h.old.size)⟩

set_option maxHeartbeats 4000000 in
set_option maxRecDepth 100000 in
theorem walk (v : V) (r s : Nat) (w : World) (hr : r < 256) (hs : s < 4294967296) : Calls Try.prog 5 #[.agg v.arr, dotV r s] w (Says (.bool true) w) := by
  have HA := Lib.hid (fun w => rhas_any v r s w hr hs)
  have HRR := Lib.hid (fun w => rright_any v 16 w (by omega) (by omega))
  obtain ⟨bb, hbb⟩ : ∃ b, V.hasB v r s = b := ⟨_, rfl⟩
  have HBB : Hid (inB v [] (r, s) = bb) := Lib.hid (by rw [← hbb]; simp [inB])
  rw [hbb] at HA
  have hb1 := fun (v : V) (w : World) => box24 v w
  have HT := Lib.hid (vdot_new w v r s)
  have HRW := Lib.hid (raw_of hr hs)
  clear hbb
  go_enter Try.func5, Try.ntmps5
  go_wp2_with fail
  clear hb1
  generalize (w.alloc (.cells v.arr 24)).alloc (.cells #[.int .u8 (r : Int), .int .u32 (s : Int)] 34) = W at HT
  refine (alive_any _).mono ?_
  rintro e w1 ⟨rfl, hb⟩
  have HT1 := Lib.hid (HT.out.below hb)
  clear hb
  go_wp2_with (refine wpList_runW (exec_load24 rfl rfl HT1.out.one) (by kernel_rfl) ?_)
  refine (new_any v _).mono ?_
  rintro e w2 hP
  rcases hP with ⟨hrt, rfl, hb⟩ | ⟨hrt, p, m, rfl, hg, hp, hm, hb⟩
  · rw [hrt] at HRR
    have HT2 := Lib.hid (HT1.out.below hb)
    clear hb hrt
    go_wp2_with (refine wpList_runW (exec_load24 rfl rfl HT2.out.one) (by kernel_rfl) ?_)
    refine (HRR.out _).mono ?_
    rintro e w3 ⟨rfl, hb⟩
    have HT3 := Lib.hid (HT2.out.below hb)
    clear hb
    go_wp2_with fail
    go_ret
    exact ⟨rfl, HT3.out.old⟩
  · have HT2 := Lib.hid (HT1.out.below hb)
    have HS : Hid (Bg w w2 p m v r s) := Lib.hid ⟨hg, HT2.out.one, HT2.out.dot, HT2.out.old⟩
    have HNM : Hid (Norm v []) := Lib.hid (right_norm hrt)
    clear hb hrt hg hp hm
    go_wp2_with fail
    refine wp_region_held_drew (S := fun w' => Bg w w' p m v r s) (by kernel_rfl) ⟨HS.out.grp.drew, HS.out.one, HS.out.dot, HS.out.old.drew⟩ (fun hS => ?_)
    refine held_take 0 15 (.pointer (some ⟨p, 0, none⟩)) rfl rfl (by kernel_rfl) (by kernel_rfl) (by kernel_rfl) (fun _ _ _ h => h) (by kernel_rfl) (fun _ _ => rfl) hS ?_
    simp only [Act.put, List.setIfInBounds_toArray, List.set_cons_zero, List.set_cons_succ]
    refine held_take 2 17 (.agg v.arr) rfl rfl (by kernel_rfl) (by kernel_rfl) (by kernel_rfl) (fun _ _ _ h => h) (by kernel_rfl) (fun _ h => exec_load24 rfl rfl h.one) hS ?_
    simp only [Act.put, List.setIfInBounds_toArray, List.set_cons_zero, List.set_cons_succ]
    refine held_call 1 16 16 #[(.pointer (some ⟨p, 0, none⟩))] (.agg v.arr) rfl (by kernel_rfl) rfl (by kernel_rfl) (by kernel_rfl) (closed_any hS.grp) (fun _ h hb => h.below hb) hS (fun w101 hS => ?_)
    simp only [Act.put, List.setIfInBounds_toArray, List.set_cons_zero, List.set_cons_succ]
    refine held_take 3 18 (.bool true) rfl rfl (by kernel_rfl) (by kernel_rfl) (by kernel_rfl) (fun _ _ _ h => h) (by kernel_rfl) (fun _ _ => exec_eql24 rfl rfl rfl (by simp [V.eqB])) hS ?_
    simp only [Act.put, List.setIfInBounds_toArray, List.set_cons_zero, List.set_cons_succ]
    refine held_take 4 19 (.bool true) rfl rfl (by kernel_rfl) (by kernel_rfl) (by kernel_rfl) (fun _ _ _ h => h) (by kernel_rfl) (fun _ _ => rfl) hS ?_
    simp only [Act.put, List.setIfInBounds_toArray, List.set_cons_zero, List.set_cons_succ]
    refine held_take 5 20 (.pointer (some ⟨p, 0, none⟩)) rfl rfl (by kernel_rfl) (by kernel_rfl) (by kernel_rfl) (fun _ _ _ h => h) (by kernel_rfl) (fun _ _ => rfl) hS ?_
    simp only [Act.put, List.setIfInBounds_toArray, List.set_cons_zero, List.set_cons_succ]
    refine held_callP 6 21 19 #[(.pointer (some ⟨p, 0, none⟩))] rfl (by kernel_rfl) rfl (by kernel_rfl) (by kernel_rfl) (gloose_any hS.grp (by simp)) (fun e w106 hP => ?_)
    obtain ⟨ga6, ca6, rfl, ho6, hb6⟩ := hP
    refine ⟨_, rfl, hS.below hb6, fun hS => ?_⟩
    simp only [Act.put, List.setIfInBounds_toArray, List.set_cons_zero, List.set_cons_succ]
    refine held_take 7 22 (.int .i64 ((([] : List Dt).length : Nat) : Int)) rfl rfl (by kernel_rfl) (by kernel_rfl) (by kernel_rfl) (fun _ _ _ h => h) (by kernel_rfl) (fun _ _ => exec_len25 rfl rfl) hS ?_
    simp only [Act.put, List.setIfInBounds_toArray, List.set_cons_zero, List.set_cons_succ]
    refine held_take 8 23 (.bool true) rfl rfl (by kernel_rfl) (by kernel_rfl) (by kernel_rfl) (fun _ _ _ h => h) (by kernel_rfl) (fun _ _ => exec_eqlI trivial rfl rfl rfl (by simp)) hS ?_
    simp only [Act.put, List.setIfInBounds_toArray, List.set_cons_zero, List.set_cons_succ]
    refine held_take 9 24 (.bool true) rfl rfl (by kernel_rfl) (by kernel_rfl) (by kernel_rfl) (fun _ _ _ h => h) (by kernel_rfl) (fun _ _ => rfl) hS ?_
    simp only [Act.put, List.setIfInBounds_toArray, List.set_cons_zero, List.set_cons_succ]
    refine held_take 10 25 (.bool true) rfl rfl (by kernel_rfl) (by kernel_rfl) (by kernel_rfl) (fun _ _ _ h => h) (by kernel_rfl) (fun _ _ => rfl) hS ?_
    simp only [Act.put, List.setIfInBounds_toArray, List.set_cons_zero, List.set_cons_succ]
    refine held_take 11 26 (.pointer (some ⟨p, 0, none⟩)) rfl rfl (by kernel_rfl) (by kernel_rfl) (by kernel_rfl) (fun _ _ _ h => h) (by kernel_rfl) (fun _ _ => rfl) hS ?_
    simp only [Act.put, List.setIfInBounds_toArray, List.set_cons_zero, List.set_cons_succ]
    refine held_callP 12 27 21 #[(.pointer (some ⟨p, 0, none⟩))] rfl (by kernel_rfl) rfl (by kernel_rfl) (by kernel_rfl) (gmissing_any hS.grp HNM.out (by simp)) (fun e w112 hP => ?_)
    obtain ⟨ga12, ca12, rfl, ho12, hb12⟩ := hP
    refine ⟨_, rfl, hS.below hb12, fun hS => ?_⟩
    simp only [Act.put, List.setIfInBounds_toArray, List.set_cons_zero, List.set_cons_succ]
    refine held_take 13 28 (.int .i64 (((miss v ([] : List Dt)).length : Nat) : Int)) rfl rfl (by kernel_rfl) (by kernel_rfl) (by kernel_rfl) (fun _ _ _ h => h) (by kernel_rfl) (fun _ _ => exec_len25 rfl rfl) hS ?_
    simp only [Act.put, List.setIfInBounds_toArray, List.set_cons_zero, List.set_cons_succ]
    refine held_take 14 29 (.bool true) rfl rfl (by kernel_rfl) (by kernel_rfl) (by kernel_rfl) (fun _ _ _ h => h) (by kernel_rfl) (fun _ _ => exec_eqlI trivial rfl rfl rfl (by simp [miss])) hS ?_
    simp only [Act.put, List.setIfInBounds_toArray, List.set_cons_zero, List.set_cons_succ]
    refine held_take 15 30 (.bool true) rfl rfl (by kernel_rfl) (by kernel_rfl) (by kernel_rfl) (fun _ _ _ h => h) (by kernel_rfl) (fun _ _ => rfl) hS ?_
    simp only [Act.put, List.setIfInBounds_toArray, List.set_cons_zero, List.set_cons_succ]
    refine held_take 16 31 (.bool true) rfl rfl (by kernel_rfl) (by kernel_rfl) (by kernel_rfl) (fun _ _ _ h => h) (by kernel_rfl) (fun _ _ => rfl) hS ?_
    simp only [Act.put, List.setIfInBounds_toArray, List.set_cons_zero, List.set_cons_succ]
    refine held_take 17 32 (.pointer (some ⟨p, 0, none⟩)) rfl rfl (by kernel_rfl) (by kernel_rfl) (by kernel_rfl) (fun _ _ _ h => h) (by kernel_rfl) (fun _ _ => rfl) hS ?_
    simp only [Act.put, List.setIfInBounds_toArray, List.set_cons_zero, List.set_cons_succ]
    refine held_take 18 33 (dotV r s) rfl rfl (by kernel_rfl) (by kernel_rfl) (by kernel_rfl) (fun _ _ _ h => h) (by kernel_rfl) (fun _ h => exec_load34 rfl rfl h.dot) hS ?_
    simp only [Act.put, List.setIfInBounds_toArray, List.set_cons_zero, List.set_cons_succ]
    refine held_take 20 35 (.agg v.arr) rfl rfl (by kernel_rfl) (by kernel_rfl) (by kernel_rfl) (fun _ _ _ h => h) (by kernel_rfl) (fun _ h => exec_load24 rfl rfl h.one) hS ?_
    simp only [Act.put, List.setIfInBounds_toArray, List.set_cons_zero, List.set_cons_succ]
    refine held_take 21 36 (dotV r s) rfl rfl (by kernel_rfl) (by kernel_rfl) (by kernel_rfl) (fun _ _ _ h => h) (by kernel_rfl) (fun _ h => exec_load34 rfl rfl h.dot) hS ?_
    simp only [Act.put, List.setIfInBounds_toArray, List.set_cons_zero, List.set_cons_succ]
    refine held_call 19 34 12 #[(.pointer (some ⟨p, 0, none⟩)), (dotV r s)] (.bool bb) rfl (by kernel_rfl) rfl (by kernel_rfl) (by kernel_rfl) (HBB.out ▸ ghas_any hS.grp (r, s) HRW.out) (fun _ h hb => h.below hb) hS (fun w119 hS => ?_)
    simp only [Act.put, List.setIfInBounds_toArray, List.set_cons_zero, List.set_cons_succ]
    refine held_call 22 37 23 #[(.agg v.arr), (dotV r s)] (.bool bb) rfl (by kernel_rfl) rfl (by kernel_rfl) (by kernel_rfl) (HA.out _) (fun _ h hb => h.below hb) hS (fun w122 hS => ?_)
    simp only [Act.put, List.setIfInBounds_toArray, List.set_cons_zero, List.set_cons_succ]
    refine held_take 23 38 (.bool true) rfl rfl (by kernel_rfl) (by kernel_rfl) (by kernel_rfl) (fun _ _ _ h => h) (by kernel_rfl) (fun _ _ => exec_eqlB (by kernel_rfl) rfl rfl rfl (by simp)) hS ?_
    simp only [Act.put, List.setIfInBounds_toArray, List.set_cons_zero, List.set_cons_succ]
    refine held_take 24 39 (.bool true) rfl rfl (by kernel_rfl) (by kernel_rfl) (by kernel_rfl) (fun _ _ _ h => h) (by kernel_rfl) (fun _ _ => rfl) hS ?_
    simp only [Act.put, List.setIfInBounds_toArray, List.set_cons_zero, List.set_cons_succ]
    refine held_take 25 4 (.bool true) rfl rfl (by kernel_rfl) (by kernel_rfl) (by kernel_rfl) (fun _ _ _ h => h) (by kernel_rfl) (fun _ _ => rfl) hS ?_
    simp only [Act.put, List.setIfInBounds_toArray, List.set_cons_zero, List.set_cons_succ]
    refine wpAnyH_done (by kernel_rfl) ?_ _
    go_wp2_with fail
    go_ret
    exact ⟨rfl, hS.old⟩

set_option maxRecDepth 100000 in
theorem lifted (os : Os) (started : os.Started) (H : Type) (enc : TypeId × Value → H) :
    ReturnsInHanded {} Try.checked os 5 .any (Rows.dotsBeginSpec.pre6 enc Try.prog Try.f5 Rows.dotsBeginRow.domain false) (Rows.dotsBeginSpec.post enc Try.prog Try.f5 false true false false) := by
  refine returnsInHanded_of_change (C := Try.checked) own started (by kernel_rfl) Try.func5
    (ChangeSpec.witness6 (enc := enc) (C := Try.checked) false ⟨#[], #[.agg #[.int .u32 0, .int .u32 0, .int .u32 0, .int .u32 0, .int .u32 0, .int .u32 0, .int .u32 0, .int .u32 0, .int .u32 0, .int .u32 0, .int .u32 0, .int .u32 0, .int .u32 0, .int .u32 0, .int .u32 0, .int .u32 0], .agg #[.int .u8 0, .int .u32 0]], []⟩ 8 (by kernel_rfl) (by kernel_rfl) (by kernel_rfl) (by kernel_rfl)) ?_
  intro W base args ds gs before hval0 hW hcnd _
  have hval : ∀ (j : Nat) t v, Try.f5.params[j]? = some t → args[j]? = some v → Value.okWide Try.prog W .any base t v := hval0
  have hW' := hW
  obtain ⟨p, q, hA0, hV, rfl, hfz, hnd⟩ := hW
  have hA : DataW.TrodAll enc Try.prog W 0 (fun _ => true) true Try.f5.params.toList args.toList ds p := hA0
  rw [Try.params5] at hA hval
  obtain ⟨v0, v1, d0, d1, p0, p1, rfl, rfl, rfl, h0, h1⟩ := trodAll_two hA
  obtain ⟨rfl, rfl⟩ := trodVars_none hV
  have lt0 : ∀ x ∈ p0, x.block < W.heap.size := by obtain ⟨m, hm⟩ := h0; exact DataW.trod_lt m _ _ _ hm
  obtain ⟨a0, rfl⟩ := vec_of (hval 0 24 v0 rfl rfl) h0
  have lt1 : ∀ x ∈ p1, x.block < W.heap.size := by obtain ⟨m, hm⟩ := h1; exact DataW.trod_lt m _ _ _ hm
  obtain ⟨r1, s1, hr1, hs1, rfl⟩ := dot_of (hval 1 34 v1 rfl rfl) h1
  clear hA0 hval0
  refine (walk a0 r1 s1 W hr1 hs1).mono fun e W' ⟨he, bel⟩ => ?_
  subst he
  exact ⟨_, rfl, _, _, _, [], _, [], hW', trodAll_mk1 (shut_bool Try.underlying4 _), trodAll_mk2 (Below.trod laidOut (by kernel_rfl) (of_decide_eq_true (by kernel_rfl)) h0 bel lt0) (Below.trod laidOut (by kernel_rfl) (of_decide_eq_true (by kernel_rfl)) h1 bel lt1), rfl, bel.frame _, fun h => by cases h⟩
end DotsBegin

theorem dotsBegin_proved : Rows.DotsBeginSaid :=
  OpenClaim.holds_of_wide 5 Try.f5 rfl rfl rfl rfl rfl rfl rfl ⟨rfl, rfl, rfl, rfl, rfl⟩ rfl rfl rfl rfl rfl (by kernel_rfl) Try.func5 (by kernel_rfl)
    (of_decide_eq_true (by kernel_rfl)) (by unfold Func.isWrapper; first | (rw [if_pos (by decide +kernel)]; kernel_rfl) | (rw [if_neg (by decide +kernel)]; exact ⟨rfl, rfl⟩))
    (fun os started H enc _ => DotsBegin.lifted os started H enc)
#print axioms dotsBegin_proved
end Go.Proofs.Ytkamldmcjegjgaa
