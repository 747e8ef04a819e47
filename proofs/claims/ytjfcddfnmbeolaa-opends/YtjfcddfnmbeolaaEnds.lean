/- OpEnds: an operation ends only what it knew, of its own cart; none ends itself. No condition. -/
import Derived.Test.YtjfcddfnmbeolaaLaw
namespace Go.Proofs.Ytjfcddfnmbeolaa
open Go.ChangeShapes Go.WideShapes Go.ChangeAt Go.RowKit

/-- None ends itself. -/
theorem ends_self {o : O} (h : o.rightB 16 = true) : O.endsB o o = false := by
  have h1 := ((O.right_iff o 16).1 h).2.1
  unfold O.endsB
  simp only [decide_eq_false_iff_not]
  intro hh
  have h2 := hh.2.2.1
  simp only [V.hasB, Bool.and_eq_true, decide_eq_true_eq] at h2
  omega
/-- What one that is ended is. -/
theorem ends_what {o p : O} (h : O.endsB o p = true) : V.hasB o.v p.r p.s = true ∧ o.c = p.c ∧ p.k ≠ 3 ∧ p.k ≠ 5 ∧ o.k ≠ 1 ∧ o.k ≠ 4 := by
  simp only [O.endsB, O.laysB, decide_eq_true_eq] at h
  obtain ⟨h1, h2, h3, h4⟩ := h
  exact ⟨h3, h2, by omega, by omega, by omega, by omega⟩

namespace OpEnds
set_option maxHeartbeats 8000000 in
set_option maxRecDepth 100000 in
theorem walk (a b : O) (w : World) : Calls Try.prog 8 #[.agg a.arr, .agg b.arr] w (Says (.bool true) w) := by
  have hb1 := fun (o : O) w => box29 o w
  have HT := Lib.hid (ow2_new w a b)
  have b1 := a.hk
  have b2 := b.hk
  have b3 := a.hc
  have b4 := b.hc
  have HR := Lib.hid (fun w => right_op a 16 w (by omega) (by omega))
  have HE := Lib.hid (fun w => ends_any a b w)
  have HS := Lib.hid (fun w => ends_any a a w)
  have HH := Lib.hid (fun w => rhas_any a.v b.r b.s w b.hr b.hs)
  have HQ := Lib.hid (ends_self (o := a))
  have HW := Lib.hid (ends_what (o := a) (p := b))
  go_enter Try.func8, Try.ntmps8
  go_wp2_with fail
  clear hb1
  generalize (w.alloc (.cells a.arr 29)).alloc (.cells b.arr 29) = W at HT
  refine (alive_any _).mono ?_
  rintro e w1 ⟨rfl, hb⟩
  have HT1 := Lib.hid (HT.out.below hb)
  clear hb HT
  go_wp2_with (refine wpList_run rfl (exec_load29 (p := a) rfl rfl HT1.out.one) ?_)
  refine (HR.out _).mono ?_
  rintro e w2 ⟨rfl, hb⟩
  have HT2 := Lib.hid (HT1.out.below hb)
  clear hb HT1
  cases hr : a.rightB 16
  · clear hr
    have HT3 := HT2
    have HT4 := HT3
    go_wp2_with (first | (refine wpList_run rfl (exec_load29 (p := a) rfl rfl HT3.out.one) ?_) | (refine wpList_run rfl (exec_load29 (p := b) rfl rfl HT3.out.two) ?_))
    cases he : O.endsB a b
    · rw [he] at HE
      clear he
      refine (HE.out _).mono ?_
      rintro e w4 ⟨rfl, hb⟩
      have HT5 := Lib.hid (HT4.out.below hb)
      clear hb
      go_wp2_with fail
      go_ret
      exact ⟨rfl, HT5.out.old⟩
    · obtain ⟨q1, q2, q3, q4, q5, q6⟩ := HW.out he
      rw [he] at HE
      rw [q1] at HH
      clear he q1
      refine (HE.out _).mono ?_
      rintro e w4 ⟨rfl, hb⟩
      have HT5 := Lib.hid (HT4.out.below hb)
      clear hb
      go_wp2_with (first | (refine wpList_runW (exec_ctx (p := a) rfl rfl HT5.out.one) (by kernel_rfl) ?_) | (refine wpList_runW (exec_dot (p := b) rfl rfl HT5.out.two) (by kernel_rfl) ?_))
      refine (HH.out _).mono ?_
      rintro e w5 ⟨rfl, hb⟩
      have HT6 := Lib.hid (HT5.out.below hb)
      clear hb HT5
      have c3 := oc3 HT6.out.one
      have d3 := oc3 HT6.out.two
      have c2 := oc2 HT6.out.one
      have d2 := oc2 HT6.out.two
      have g1 : ((a.c : Int) == (b.c : Int)) = true := by simp; omega
      have g2 : ((b.k : Int) != 3) = true := by simp; omega
      have g3 : ((b.k : Int) != 5) = true := by simp; omega
      have g4 : ((a.k : Int) != 1) = true := by simp; omega
      have g5 : ((a.k : Int) != 4) = true := by simp; omega
      clear q2 q3 q4 q5 q6
      go_wp2_with fail
      go_ret
      exact ⟨rfl, HT6.out.old⟩
  · have hq := HQ.out hr
    rw [hq] at HS
    clear hr hq
    go_wp2_with (refine wpList_runW (exec_load29 (p := a) rfl rfl HT2.out.one) (by kernel_rfl) ?_)
    refine (HS.out _).mono ?_
    rintro e w3 ⟨rfl, hb⟩
    have HT3 := Lib.hid (HT2.out.below hb)
    clear hb HT2
    have HT4 := HT3
    go_wp2_with (first | (refine wpList_run rfl (exec_load29 (p := a) rfl rfl HT3.out.one) ?_) | (refine wpList_run rfl (exec_load29 (p := b) rfl rfl HT3.out.two) ?_))
    cases he : O.endsB a b
    · rw [he] at HE
      clear he
      refine (HE.out _).mono ?_
      rintro e w4 ⟨rfl, hb⟩
      have HT5 := Lib.hid (HT4.out.below hb)
      clear hb
      go_wp2_with fail
      go_ret
      exact ⟨rfl, HT5.out.old⟩
    · obtain ⟨q1, q2, q3, q4, q5, q6⟩ := HW.out he
      rw [he] at HE
      rw [q1] at HH
      clear he q1
      refine (HE.out _).mono ?_
      rintro e w4 ⟨rfl, hb⟩
      have HT5 := Lib.hid (HT4.out.below hb)
      clear hb
      go_wp2_with (first | (refine wpList_runW (exec_ctx (p := a) rfl rfl HT5.out.one) (by kernel_rfl) ?_) | (refine wpList_runW (exec_dot (p := b) rfl rfl HT5.out.two) (by kernel_rfl) ?_))
      refine (HH.out _).mono ?_
      rintro e w5 ⟨rfl, hb⟩
      have HT6 := Lib.hid (HT5.out.below hb)
      clear hb HT5
      have c3 := oc3 HT6.out.one
      have d3 := oc3 HT6.out.two
      have c2 := oc2 HT6.out.one
      have d2 := oc2 HT6.out.two
      have g1 : ((a.c : Int) == (b.c : Int)) = true := by simp; omega
      have g2 : ((b.k : Int) != 3) = true := by simp; omega
      have g3 : ((b.k : Int) != 5) = true := by simp; omega
      have g4 : ((a.k : Int) != 1) = true := by simp; omega
      have g5 : ((a.k : Int) != 4) = true := by simp; omega
      clear q2 q3 q4 q5 q6
      go_wp2_with fail
      go_ret
      exact ⟨rfl, HT6.out.old⟩

set_option maxRecDepth 100000 in
theorem lifted (os : Os) (started : os.Started) (H : Type) (enc : TypeId × Value → H) :
    ReturnsInHanded {} Try.checked os 8 .any (Rows.opEndsSpec.pre6 enc Try.prog Try.f8 Rows.opEndsRow.domain false) (Rows.opEndsSpec.post enc Try.prog Try.f8 false true false false) := by
  refine returnsInHanded_of_change (C := Try.checked) own started (by kernel_rfl) Try.func8
    (ChangeSpec.witness6 (enc := enc) (C := Try.checked) false ⟨#[], #[.agg #[.int .u8 0, .int .u32 0, .int .u8 0, .int .u16 0, .int .u16 0, .int .u16 0, .int .u32 0, .int .u32 0, .int .u32 0, .int .u32 0, .int .u32 0, .int .u32 0, .int .u32 0, .int .u32 0, .int .u32 0, .int .u32 0, .int .u32 0, .int .u32 0, .int .u32 0, .int .u32 0, .int .u32 0, .int .u32 0, .int .u32 0], .agg #[.int .u8 0, .int .u32 0, .int .u8 0, .int .u16 0, .int .u16 0, .int .u16 0, .int .u32 0, .int .u32 0, .int .u32 0, .int .u32 0, .int .u32 0, .int .u32 0, .int .u32 0, .int .u32 0, .int .u32 0, .int .u32 0, .int .u32 0, .int .u32 0, .int .u32 0, .int .u32 0, .int .u32 0, .int .u32 0, .int .u32 0]], []⟩ 8 (by kernel_rfl) (by kernel_rfl) (by kernel_rfl) (by kernel_rfl)) ?_
  intro W base args ds gs before hval0 hW hcnd _
  have hval : ∀ (j : Nat) t v, Try.f8.params[j]? = some t → args[j]? = some v → Value.okWide Try.prog W .any base t v := hval0
  have hW' := hW
  obtain ⟨p, q, hA0, hV, rfl, hfz, hnd⟩ := hW
  have hA : DataW.TrodAll enc Try.prog W 0 (fun _ => true) true Try.f8.params.toList args.toList ds p := hA0
  rw [Try.params8] at hA hval
  obtain ⟨v0, v1, d0, d1, p0, p1, rfl, rfl, rfl, h0, h1⟩ := trodAll_two hA
  obtain ⟨rfl, rfl⟩ := trodVars_none hV
  have lt0 : ∀ x ∈ p0, x.block < W.heap.size := by obtain ⟨m, hm⟩ := h0; exact DataW.trod_lt m _ _ _ hm
  obtain ⟨a0, rfl⟩ := op_of (hval 0 29 v0 rfl rfl) h0
  have lt1 : ∀ x ∈ p1, x.block < W.heap.size := by obtain ⟨m, hm⟩ := h1; exact DataW.trod_lt m _ _ _ hm
  obtain ⟨a1, rfl⟩ := op_of (hval 1 29 v1 rfl rfl) h1
  clear hA0 hval0
  refine (walk a0 a1 W).mono fun e W' ⟨he, bel⟩ => ?_
  subst he
  exact ⟨_, rfl, _, _, _, [], _, [], hW', trodAll_mk1 (shut_bool Try.underlying4 _), trodAll_mk2 (Below.trod laidOut (by kernel_rfl) (of_decide_eq_true (by kernel_rfl)) h0 bel lt0) (Below.trod laidOut (by kernel_rfl) (of_decide_eq_true (by kernel_rfl)) h1 bel lt1), rfl, bel.frame _, fun h => by cases h⟩
end OpEnds

theorem opEnds_proved : Rows.OpEndsSaid :=
  OpenClaim.holds_of_wide 8 Try.f8 rfl rfl rfl rfl rfl rfl rfl ⟨rfl, rfl, rfl, rfl, rfl⟩ rfl rfl rfl rfl rfl (by kernel_rfl) Try.func8 (by kernel_rfl)
    (of_decide_eq_true (by kernel_rfl)) (by unfold Func.isWrapper; first | (rw [if_pos (by decide +kernel)]; kernel_rfl) | (rw [if_neg (by decide +kernel)]; exact ⟨rfl, rfl⟩))
    (fun os started H enc _ => OpEnds.lifted os started H enc)
#print axioms opEnds_proved
end Go.Proofs.Ytjfcddfnmbeolaa
