/- VintFolds is proved: for every signed number and every other one, Fold and Unfold answer what the document's answer, and undo each other. No condition. -/
import Derived.Test.YtpgeolngilepkaaLift
namespace Go.Proofs.Ytpgeolngilepkaa
namespace VintFolds
open Go.ChangeShapes Go.WideShapes Go.ChangeAt Go.RowKit

set_option maxHeartbeats 400000 in
theorem core (z u : Int) (f m : Nat) (w : World)
    (H1 : Hid (∀ w, Calls Try.prog 16 #[.int .i64 z] w fun e w' => e = .returned (.int .u64 (f : Int)) ∧ w = w'))
    (H2 : Hid (∀ w, Calls Try.prog 17 #[.int .i64 z] w fun e w' => e = .returned (.int .u64 (f : Int)) ∧ w = w'))
    (H3 : Hid (∀ w, Calls Try.prog 18 #[.int .u64 (m : Int)] w fun e w' => e = .returned (.int .i64 u) ∧ w = w'))
    (H4 : Hid (∀ w, Calls Try.prog 19 #[.int .u64 (m : Int)] w fun e w' => e = .returned (.int .i64 u) ∧ w = w'))
    (H5 : Hid (∀ w, Calls Try.prog 18 #[.int .u64 (f : Int)] w fun e w' => e = .returned (.int .i64 z) ∧ w = w'))
    (H6 : Hid (∀ w, Calls Try.prog 16 #[.int .i64 u] w fun e w' => e = .returned (.int .u64 (m : Int)) ∧ w = w')) :
    Calls Try.prog 5 #[.int .i64 z, .int .u64 (m : Int)] w fun e w' => e = .returned (.bool true) ∧ Below w.heap.size w w' := by
  go_enter Try.func5, Try.ntmps5
  go_wp2_with fail
  refine (alive_any w).mono ?_
  rintro e w1 ⟨rfl, hb⟩
  have HB := Lib.hid hb
  clear hb
  go_wp2_with fail
  refine (H1.out _).mono ?_
  rintro e w' ⟨rfl, rfl⟩
  go_wp2_with fail
  refine (H2.out _).mono ?_
  rintro e w' ⟨rfl, rfl⟩
  go_wp2_with fail
  refine (H3.out _).mono ?_
  rintro e w' ⟨rfl, rfl⟩
  go_wp2_with fail
  refine (H4.out _).mono ?_
  rintro e w' ⟨rfl, rfl⟩
  go_wp2_with fail
  refine (H1.out _).mono ?_
  rintro e w' ⟨rfl, rfl⟩
  go_wp2_with fail
  refine (H5.out _).mono ?_
  rintro e w' ⟨rfl, rfl⟩
  go_wp2_with fail
  refine (H3.out _).mono ?_
  rintro e w' ⟨rfl, rfl⟩
  go_wp2_with fail
  refine (H6.out _).mono ?_
  rintro e w' ⟨rfl, rfl⟩
  go_wp2_with fail
  go_ret
  exact ⟨rfl, HB.out⟩

theorem walk (z : Int) (m : Nat) (w : World) (h0 : -9223372036854775808 ≤ z) (h1 : z ≤ 9223372036854775807) (hm : m < 18446744073709551616) :
    Calls Try.prog 5 #[.int .i64 z, .int .u64 (m : Int)] w fun e w' => e = .returned (.bool true) ∧ Below w.heap.size w w' := by
  have f0 := fold_lo z
  have f1 := fold_hi z h0 h1
  have u0 := unfold_lo (m : Int) (by omega) (by omega)
  have u1 := unfold_hi (m : Int) (by omega) (by omega)
  have r1 := unfold_fold z
  have r2 := fold_unfold (m : Int) (by omega)
  have k1 := fun w => fold_any z w h0 h1
  have k2 := fun w => rfold_any z w h0 h1
  have k3 := fun w => unfold_any m w hm
  have k4 := fun w => runfold_any m w hm
  have k6 := fun w => fold_any (unfold (m : Int)) w u0 u1
  rw [r2] at k6
  obtain ⟨f, hf⟩ := Int.eq_ofNat_of_zero_le f0
  rw [hf] at k1 k2 r1
  have k5 := fun w => unfold_any f w (by omega)
  rw [r1] at k5
  exact core z (unfold m) f m w (Lib.hid k1) (Lib.hid k2) (Lib.hid k3) (Lib.hid k4) (Lib.hid k5) (Lib.hid k6)

set_option maxRecDepth 100000 in
theorem lifted (os : Os) (started : os.Started) (H : Type) (enc : TypeId × Value → H) :
    ReturnsInHanded {} Try.checked os 5 .any (Rows.vintFoldsSpec.pre6 enc Try.prog Try.f5 Rows.vintFoldsRow.domain false) (Rows.vintFoldsSpec.post enc Try.prog Try.f5 false true false false) := by
  refine returnsInHanded_of_change (C := Try.checked) own started (by kernel_rfl) Try.func5
    (ChangeSpec.witness6 (enc := enc) (C := Try.checked) false ⟨#[], #[.int .i64 0, .int .u64 0], []⟩ 8 (by kernel_rfl) (by kernel_rfl) (by kernel_rfl) (by kernel_rfl)) ?_
  intro W base args ds gs before hval0 hW hcnd _
  have hval : ∀ (j : Nat) t v, Try.f5.params[j]? = some t → args[j]? = some v → Value.okWide Try.prog W .any base t v := hval0
  have hW' := hW
  obtain ⟨p, q, hA0, hV, rfl, hfz, hnd⟩ := hW
  have hA : DataW.TrodAll enc Try.prog W 0 (fun _ => true) true Try.f5.params.toList args.toList ds p := hA0
  rw [Try.params5] at hA hval
  obtain ⟨v0, v1, d0, d1, p0, p1, rfl, rfl, rfl, h0, h1⟩ := trodAll_two hA
  obtain ⟨rfl, rfl⟩ := trodVars_none hV
  obtain ⟨a0, rfl, rfl, rfl, w0⟩ := open_int Try.underlying2 (hval 0 2 v0 rfl rfl) h0
  obtain ⟨a1, rfl, rfl, rfl, w1⟩ := open_int Try.underlying22 (hval 1 22 v1 rfl rfl) h1
  have c0 := bounds_i64 w0
  have c1 := bounds_u64 w1
  obtain ⟨n1, rfl⟩ := Int.eq_ofNat_of_zero_le c1.1
  clear hA0 hval0
  refine (walk a0 n1 W c0.1 c0.2 (by omega)).mono fun e W' ⟨he, bel⟩ => ?_
  subst he
  exact ⟨_, rfl, _, _, _, [], _, [], hW', trodAll_mk1 (shut_bool Try.underlying4 _), trodAll_mk2 (shut_int Try.underlying2 w0) (shut_int Try.underlying22 w1), rfl, bel.frame _, fun h => by cases h⟩
end VintFolds

theorem vintFolds_proved : Rows.VintFoldsSaid :=
  OpenClaim.holds_of_wide 5 Try.f5 rfl rfl rfl rfl rfl rfl rfl ⟨rfl, rfl, rfl, rfl, rfl⟩ rfl rfl rfl rfl rfl (by kernel_rfl) Try.func5 (by kernel_rfl)
    (of_decide_eq_true (by kernel_rfl)) (by unfold Func.isWrapper; first | (rw [if_pos (by decide +kernel)]; kernel_rfl) | (rw [if_neg (by decide +kernel)]; exact ⟨rfl, rfl⟩))
    (fun os started H enc _ => VintFolds.lifted os started H enc)
#print axioms vintFolds_proved
end Go.Proofs.Ytpgeolngilepkaa
