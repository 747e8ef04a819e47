/- VintOrder is proved: for every two numbers and every signed one, the less number has no more bytes, and the signed number folds to a small one whose lowest bit is its sign. No condition. -/
import Derived.Test.YtpgeolngilepkaaLift
namespace Go.Proofs.Ytpgeolngilepkaa
namespace VintOrder
open Go.ChangeShapes Go.WideShapes Go.ChangeAt Go.RowKit

set_option maxHeartbeats 400000 in
theorem core_gt (a b : Nat) (c F : Int) (w : World) (hc0 : -2147483648 ≤ c) (hc1 : c ≤ 2147483647) (hab : (b : Int) < (a : Int)) (hF0 : 0 ≤ F) (hF1 : F ≤ 4294967296) (v : Bool) (hs : decide (0 ≤ c) = v) (hp : (F % 2 == 0) = v)
    (HF : Hid (∀ w, Calls Try.prog 16 #[.int .i64 c] w fun e w' => e = .returned (.int .u64 F) ∧ w = w')) :
    Calls Try.prog 7 #[.int .u64 (a : Int), .int .u64 (b : Int), .int .i32 c] w fun e w' => e = .returned (.bool true) ∧ Below w.heap.size w w' := by
  go_enter Try.func7, Try.ntmps7
  go_wp2_with fail
  refine (alive_any w).mono ?_
  rintro e w1 ⟨rfl, hb⟩
  have HB := Lib.hid hb
  clear hb
  go_wp2_with fail
  refine (HF.out _).mono ?_
  rintro e w' ⟨rfl, rfl⟩
  go_wp2_with fail
  go_ret
  exact ⟨ret_bool (by simp), HB.out⟩

set_option maxHeartbeats 400000 in
theorem core_le (a b la lb : Nat) (c F : Int) (w : World) (hc0 : -2147483648 ≤ c) (hc1 : c ≤ 2147483647) (hab : (a : Int) ≤ (b : Int)) (hl : la ≤ lb) (hF0 : 0 ≤ F) (hF1 : F ≤ 4294967296) (v : Bool) (hs : decide (0 ≤ c) = v) (hp : (F % 2 == 0) = v)
    (HF : Hid (∀ w, Calls Try.prog 16 #[.int .i64 c] w fun e w' => e = .returned (.int .u64 F) ∧ w = w'))
    (HA : Hid (∀ w, Calls Try.prog 13 #[.int .u64 (a : Int)] w fun e w' => e = .returned (.int .i64 (la : Int)) ∧ w = w'))
    (HB : Hid (∀ w, Calls Try.prog 13 #[.int .u64 (b : Int)] w fun e w' => e = .returned (.int .i64 (lb : Int)) ∧ w = w')) :
    Calls Try.prog 7 #[.int .u64 (a : Int), .int .u64 (b : Int), .int .i32 c] w fun e w' => e = .returned (.bool true) ∧ Below w.heap.size w w' := by
  go_enter Try.func7, Try.ntmps7
  go_wp2_with fail
  refine (alive_any w).mono ?_
  rintro e w1 ⟨rfl, hb⟩
  have HW := Lib.hid hb
  clear hb
  go_wp2_with fail
  refine (HF.out _).mono ?_
  rintro e w' ⟨rfl, rfl⟩
  go_wp2_with fail
  refine (HA.out _).mono ?_
  rintro e w' ⟨rfl, rfl⟩
  go_wp2_with fail
  refine (HB.out _).mono ?_
  rintro e w' ⟨rfl, rfl⟩
  go_wp2_with fail
  go_ret
  exact ⟨ret_bool (by simp), HW.out⟩

theorem walk (a b : Nat) (c : Int) (w : World) (ha : a < 18446744073709551616) (hb : b < 18446744073709551616) (hc0 : -2147483648 ≤ c) (hc1 : c ≤ 2147483647) :
    Calls Try.prog 7 #[.int .u64 (a : Int), .int .u64 (b : Int), .int .i32 c] w fun e w' => e = .returned (.bool true) ∧ Below w.heap.size w w' := by
  have HF := Lib.hid (fun w => fold_any c w (by omega) (by omega))
  have f0 := fold_lo c
  have f1 : fold c ≤ 4294967296 := by unfold fold; split <;> omega
  have f2 : (fold c % 2 == 0) = decide (0 ≤ c) := by
    rw [Bool.eq_iff_iff]
    unfold fold
    simp
    split <;> omega
  by_cases hab : b < a
  · exact core_gt a b c (fold c) w hc0 hc1 (by omega) f0 f1 _ rfl f2 HF
  · exact core_le a b _ _ c (fold c) w hc0 hc1 (by omega) (Vint.enc_mono a b (by omega)) f0 f1 _ rfl f2 HF (Lib.hid (fun w => size_any a w ha)) (Lib.hid (fun w => size_any b w hb))

set_option maxRecDepth 100000 in
theorem lifted (os : Os) (started : os.Started) (H : Type) (enc : TypeId × Value → H) :
    ReturnsInHanded {} Try.checked os 7 .any (Rows.vintOrderSpec.pre6 enc Try.prog Try.f7 Rows.vintOrderRow.domain false) (Rows.vintOrderSpec.post enc Try.prog Try.f7 false true false false) := by
  refine returnsInHanded_of_change (C := Try.checked) own started (by kernel_rfl) Try.func7
    (ChangeSpec.witness6 (enc := enc) (C := Try.checked) false ⟨#[], #[.int .u64 0, .int .u64 0, .int .i32 0], []⟩ 8 (by kernel_rfl) (by kernel_rfl) (by kernel_rfl) (by kernel_rfl)) ?_
  intro W base args ds gs before hval0 hW hcnd _
  have hval : ∀ (j : Nat) t v, Try.f7.params[j]? = some t → args[j]? = some v → Value.okWide Try.prog W .any base t v := hval0
  have hW' := hW
  obtain ⟨p, q, hA0, hV, rfl, hfz, hnd⟩ := hW
  have hA : DataW.TrodAll enc Try.prog W 0 (fun _ => true) true Try.f7.params.toList args.toList ds p := hA0
  rw [Try.params7] at hA hval
  obtain ⟨v0, v1, v2, d0, d1, d2, p0, p1, p2, rfl, rfl, rfl, h0, h1, h2⟩ := trodAll_three hA
  obtain ⟨rfl, rfl⟩ := trodVars_none hV
  obtain ⟨a0, rfl, rfl, rfl, w0⟩ := open_int Try.underlying22 (hval 0 22 v0 rfl rfl) h0
  obtain ⟨a1, rfl, rfl, rfl, w1⟩ := open_int Try.underlying22 (hval 1 22 v1 rfl rfl) h1
  obtain ⟨a2, rfl, rfl, rfl, w2⟩ := open_int Try.underlying21 (hval 2 21 v2 rfl rfl) h2
  have c0 := bounds_u64 w0
  have c1 := bounds_u64 w1
  have c2 := bounds_i32 w2
  obtain ⟨n0, rfl⟩ := Int.eq_ofNat_of_zero_le c0.1
  obtain ⟨n1, rfl⟩ := Int.eq_ofNat_of_zero_le c1.1
  clear hA0 hval0
  refine (walk n0 n1 a2 W (by omega) (by omega) c2.1 c2.2).mono fun e W' ⟨he, bel⟩ => ?_
  subst he
  exact ⟨_, rfl, _, _, _, [], _, [], hW', trodAll_mk1 (shut_bool Try.underlying4 _), trodAll_mk3 (shut_int Try.underlying22 w0) (shut_int Try.underlying22 w1) (shut_int Try.underlying21 w2), rfl, bel.frame _, fun h => by cases h⟩
end VintOrder

theorem vintOrder_proved : Rows.VintOrderSaid :=
  OpenClaim.holds_of_wide 7 Try.f7 rfl rfl rfl rfl rfl rfl rfl ⟨rfl, rfl, rfl, rfl, rfl⟩ rfl rfl rfl rfl rfl (by kernel_rfl) Try.func7 (by kernel_rfl)
    (of_decide_eq_true (by kernel_rfl)) (by unfold Func.isWrapper; first | (rw [if_pos (by decide +kernel)]; kernel_rfl) | (rw [if_neg (by decide +kernel)]; exact ⟨rfl, rfl⟩))
    (fun os started H enc _ => VintOrder.lifted os started H enc)
#print axioms vintOrder_proved
end Go.Proofs.Ytpgeolngilepkaa
