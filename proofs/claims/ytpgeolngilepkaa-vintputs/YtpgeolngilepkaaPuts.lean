/- VintPuts is proved: for every number the program's Put answers the document's bytes, and Size how many these are. No condition. -/
import Derived.Test.YtpgeolngilepkaaApp
import Derived.Deep.RegionWith
namespace Go.Proofs.Ytpgeolngilepkaa
namespace VintPuts
open Go.ChangeShapes Go.WideShapes Go.ChangeAt Go.RowKit

/-- What Put leaves, and that its bytes, and those of a slice that was there, make one string. -/
def Twin (L g0 c0 : Nat) (s : ByteArray) (w : World) (e : Ending) (w' : World) : Prop :=
  ∃ g cap, e = .returned (.slice (some ⟨g, 0, none⟩) L cap) ∧ (convert 24 9 (.slice (some ⟨g, 0, none⟩) L cap)).run Try.prog w' = .ok (.string s) w' ∧ (convert 24 9 (.slice (some ⟨g0, 0, none⟩) L c0)).run Try.prog w' = .ok (.string s) w' ∧ Hid (Below w.heap.size w w')

theorem put_twin (n L g0 c0 : Nat) (w : World) (h : n < 18446744073709551616) (hL : (Vint.enc n).length = L) (hR : Row w (some ⟨g0, 0, none⟩) L (Vint.enc n)) :
    Calls Try.prog 12 #[.int .u64 (n : Int)] w (Twin L g0 c0 (strOf (Vint.enc n)) w) := by
  refine (put_any n w h).mono ?_
  rintro e w' ⟨g, cap, he, hown, hb⟩
  rw [hL] at he hown
  exact ⟨g, cap, he, conv_row (row_own hown (Vint.enc_lt n)), conv_row (hR.below hb), Lib.hid hb⟩

set_option maxHeartbeats 1000000 in
set_option maxRecDepth 100000 in
theorem core (n L : Nat) (w : World) (h : Hid (n < 18446744073709551616)) (HL : Hid ((Vint.enc n).length = L))
    (HS : Hid (∀ w, Calls Try.prog 13 #[.int .u64 (n : Int)] w fun e w' => e = .returned (.int .i64 (L : Int)) ∧ w = w')) :
    Calls Try.prog 3 #[.int .u64 (n : Int)] w fun e w' => e = .returned (.bool true) ∧ Below w.heap.size w w' := by
  go_enter Try.func3, Try.ntmps3
  go_wp2_with fail
  refine (alive_any w).mono ?_
  rintro e w0 ⟨rfl, hb0⟩
  have HB0 := Lib.hid hb0
  clear hb0
  go_wp2_with fail
  refine (rput_any n _ h.out).mono ?_
  rintro e w1 ⟨g0, c0, he, hown, hb⟩
  rw [HL.out] at he hown
  subst he
  have hR := row_own hown (Vint.enc_lt n)
  have hR1 : Row w1.drew (some ⟨g0, 0, none⟩) L (Vint.enc n) := hR.below (Below.refl _ _).drew
  have hc0 := conv_row (cap := c0) hR1
  have HPC := Lib.hid (put_twin n L g0 c0 w1.drew h.out HL.out hR1)
  have HB := Lib.hid ((HB0.out.trans (hb.mono HB0.out.size)).drew)
  generalize strOf (Vint.enc n) = s at hc0 HPC
  clear hown hb hR hR1 HB0 HL
  go_wp2_with fail
  go_region_with (first
    | (go_at_call 12; refine HPC.out.mono ?_; rintro e w2 ⟨g, c, rfl, q1, q2, HB2⟩)
    | (go_at_call 13; refine (HS.out _).mono ?_; rintro e w' ⟨rfl, rfl⟩))
  all_goals go_wp2_with fail
  all_goals go_ret
  all_goals exact ⟨rfl, HB.out.trans (HB2.out.mono HB.out.size)⟩

theorem walk (n : Nat) (w : World) (h : n < 18446744073709551616) :
    Calls Try.prog 3 #[.int .u64 (n : Int)] w fun e w' => e = .returned (.bool true) ∧ Below w.heap.size w w' :=
  core n (Vint.enc n).length w (Lib.hid h) (Lib.hid rfl) (Lib.hid fun w => size_any n w h)

set_option maxRecDepth 100000 in
theorem lifted (os : Os) (started : os.Started) (H : Type) (enc : TypeId × Value → H) :
    ReturnsInHanded {} Try.checked os 3 .any (Rows.vintPutsSpec.pre6 enc Try.prog Try.f3 Rows.vintPutsRow.domain false) (Rows.vintPutsSpec.post enc Try.prog Try.f3 false true false false) := by
  refine returnsInHanded_of_change (C := Try.checked) own started (by kernel_rfl) Try.func3
    (ChangeSpec.witness6 (enc := enc) (C := Try.checked) false ⟨#[], #[.int .u64 0], []⟩ 8 (by kernel_rfl) (by kernel_rfl) (by kernel_rfl) (by kernel_rfl)) ?_
  intro W base args ds gs before hval0 hW hcnd _
  have hval : ∀ (j : Nat) t v, Try.f3.params[j]? = some t → args[j]? = some v → Value.okWide Try.prog W .any base t v := hval0
  have hW' := hW
  obtain ⟨p, q, hA0, hV, rfl, hfz, hnd⟩ := hW
  have hA : DataW.TrodAll enc Try.prog W 0 (fun _ => true) true Try.f3.params.toList args.toList ds p := hA0
  rw [Try.params3] at hA hval
  obtain ⟨v0, d0, rfl, rfl, h0⟩ := trodAll_one hA
  obtain ⟨rfl, rfl⟩ := trodVars_none hV
  obtain ⟨a0, rfl, rfl, rfl, w0⟩ := open_int Try.underlying22 (hval 0 22 v0 rfl rfl) h0
  have c0 := bounds_u64 w0
  obtain ⟨n0, rfl⟩ := Int.eq_ofNat_of_zero_le c0.1
  clear hA0 hval0
  refine (walk n0 W (by omega)).mono fun e W' ⟨he, bel⟩ => ?_
  subst he
  exact ⟨_, rfl, _, _, _, [], _, [], hW', trodAll_mk1 (shut_bool Try.underlying4 _), trodAll_mk1 (shut_int Try.underlying22 w0), rfl, bel.frame _, fun h => by cases h⟩
end VintPuts

theorem vintPuts_proved : Rows.VintPutsSaid :=
  OpenClaim.holds_of_wide 3 Try.f3 rfl rfl rfl rfl rfl rfl rfl ⟨rfl, rfl, rfl, rfl, rfl⟩ rfl rfl rfl rfl rfl (by kernel_rfl) Try.func3 (by kernel_rfl)
    (of_decide_eq_true (by kernel_rfl)) (by unfold Func.isWrapper; first | (rw [if_pos (by decide +kernel)]; kernel_rfl) | (rw [if_neg (by decide +kernel)]; exact ⟨rfl, rfl⟩))
    (fun os started H enc _ => VintPuts.lifted os started H enc)
#print axioms vintPuts_proved
end Go.Proofs.Ytpgeolngilepkaa
