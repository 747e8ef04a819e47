/- FrameWraps is proved: the frame of any bytes is the document's, or refused; the table of four bits is tied to the program's text. No other condition. -/
import Derived.Test.YtphljhbeahkkaaaDoorRf
namespace Go.Proofs.YtphljhbeahkkaaaDoor
namespace FrameWraps
open Go.ChangeShapes Go.WideShapes Go.ChangeAt Go.RowKit

set_option maxHeartbeats 400000 in
theorem core_mid (a : Option Addr) (len cap : Nat) (w : World) (hl : len ≤ 4096) (hb : 3000 < len)
    (HA : Hid (Calls Tryd.prog 9 #[] w fun e w' => e = .returned (.bool true) ∧ Below w.heap.size w w')) :
    Calls Tryd.prog 3 #[.slice a len cap] w fun e w' => e = .returned (.bool true) ∧ Below w.heap.size w w' := by
  go_enter Tryd.func3, Tryd.ntmps3
  go_wp2_with fail
  refine HA.out.mono ?_
  rintro e w1 ⟨rfl, hB⟩
  have HB := Lib.hid hB
  clear hB HA
  go_wp2_with fail
  go_ret
  exact ⟨rfl, HB.out⟩

set_option maxHeartbeats 400000 in
theorem core_big (a : Option Addr) (len cap : Nat) (w : World) (hl : len ≤ 9223372036854775807) (hb : 4096 < len)
    (HA : Hid (Calls Tryd.prog 9 #[] w fun e w' => e = .returned (.bool true) ∧ Below w.heap.size w w')) :
    Calls Tryd.prog 3 #[.slice a len cap] w fun e w' => e = .returned (.bool true) ∧ Below w.heap.size w w' := by
  go_enter Tryd.func3, Tryd.ntmps3
  go_wp2_with fail
  refine HA.out.mono ?_
  rintro e w1 ⟨rfl, hB⟩
  have HB := Lib.hid hB
  clear hB HA
  go_wp2_with fail
  refine (wrap_big a len cap w1 hl hb).mono ?_
  rintro e w2 ⟨rfl, rfl⟩
  go_wp2_with fail
  refine (rwrap_big a len cap w1 hl hb).mono ?_
  rintro e w2 ⟨rfl, rfl⟩
  have hcv := conv_any (cap := 0) (row_nil w1 none)
  go_wp2_with fail
  go_ret
  exact ⟨rfl, HB.out⟩

set_option maxHeartbeats 1000000 in
theorem core (a : Option Addr) (len cap : Nat) (l : List Nat) (w : World) (hlen : len ≤ 3000) (hT : Hid (Tab w)) (hX : Hid (In w a len cap l))
    (HA : Hid (Calls Tryd.prog 9 #[] w fun e w' => e = .returned (.bool true) ∧ Below w.heap.size w w')) :
    Calls Tryd.prog 3 #[.slice a len cap] w fun e w' => e = .returned (.bool true) ∧ Below w.heap.size w w' := by
  go_enter Tryd.func3, Tryd.ntmps3
  go_wp2_with fail
  refine HA.out.mono ?_
  rintro e w1 ⟨rfl, hB⟩
  have HB := Lib.hid hB
  have HX1 := Lib.hid (hX.out.below hB)
  have HT1 := Lib.hid (hT.out.below hB)
  have HW := Lib.hid (wrap_any a len cap l w1 HT1.out HX1.out.row HX1.out.nil (by omega))
  clear hB HA hX
  go_wp2_with fail
  refine HW.out.mono ?_
  rintro e w2 ⟨a2, c2, rfl, ho2, hb2⟩
  have HR2 := Lib.hid (ho2.row (Frm.fr_lt HX1.out.row.small))
  have HX2 := Lib.hid (HX1.out.below hb2)
  have HB2 := Lib.hid (HB.out.trans (hb2.mono HB.out.size))
  have HSM := Lib.hid (Frm.fr_lt HX1.out.row.small)
  have HW2 := Lib.hid (rwrap_any a len cap l w2 HX2.out.row HX2.out.nil (by omega))
  clear ho2 hb2 HW HB
  go_wp2_with fail
  refine HW2.out.mono ?_
  rintro e w3 ⟨a3, c3, rfl, ho3, hb3⟩
  have HB3 := Lib.hid (HB2.out.trans (hb3.mono HB2.out.size))
  have hv1 := conv_any (cap := c2) (HR2.out.below hb3)
  have hv2 := conv_any (cap := c3) (ho3.row HSM.out)
  clear ho3 hb3
  generalize strOf (Frm.fr l) = z at hv1 hv2
  generalize (Frm.fr l).length = F at *
  go_wp2_with fail
  go_ret
  exact ⟨rfl, HB3.out⟩

theorem walk (a : Option Addr) (len cap : Nat) (l : List Nat) (w : World) (hT : Tab w) (hX : In w a len cap l) :
    Calls Tryd.prog 3 #[.slice a len cap] w fun e w' => e = .returned (.bool true) ∧ Below w.heap.size w w' := by
  have HA := Lib.hid (alive_any w hT)
  by_cases hb : 4096 < len
  · exact core_big a len cap w hX.max hb HA
  · by_cases hc : 3000 < len
    · exact core_mid a len cap w (by omega) hc HA
    · exact core a len cap l w (by omega) (Lib.hid hT) (Lib.hid hX) HA

set_option maxRecDepth 100000 in
theorem lifted (os : Os) (started : os.Started) (H : Type) (enc : TypeId × Value → H) :
    ReturnsInHanded {} Tryd.checked os 3 .any (fun w args => (Rows.frameWrapsSpec.pre enc Tryd.prog Tryd.f3 [] false w args ∧ laidMetH Tryd.prog laid1 w) ∧ sizedMet enc Tryd.prog Tryd.f3 (OpenSpec.ofChange Rows.frameWrapsSpec) false w args)
      (Rows.frameWrapsSpec.post enc Tryd.prog Tryd.f3 false true false false) := by
  refine returnsInHanded_of_change_and (C := Tryd.checked) (X := fun w _ => laidMetH Tryd.prog laid1 w) (fun _ _ _ hh h => h.of_heap hh) own started (by kernel_rfl) Tryd.func3
    (ChangeSpec.witness_shaped (enc := enc) (C := Tryd.checked) (os := os) (X := fun w _ => laidMetH Tryd.prog laid1 w) false (World.doorLaid Tryd.prog 14 os) #[.slice none 0 0] 8 rfl (World.shaped_of_RefB (by kernel_rfl) (by kernel_rfl)) (by kernel_rfl) (by kernel_rfl) (by kernel_rfl) (door_met os _)) ?_
  intro W base args ds gs before hval0 hW _ _ hL _
  have hval : ∀ (j : Nat) t v, Tryd.f3.params[j]? = some t → args[j]? = some v → Value.okWide Tryd.prog W .any base t v := hval0
  have hW' := hW
  obtain ⟨p, q, hA0, hV, rfl, hfz, hnd⟩ := hW
  have hA : DataW.TrodAll enc Tryd.prog W 0 (fun _ => true) true Tryd.f3.params.toList args.toList ds p := hA0
  rw [Tryd.params3] at hA hval
  obtain ⟨v0, d0, rfl, rfl, h0⟩ := trodAll_one hA
  obtain ⟨rfl, rfl⟩ := trodVars_none hV
  obtain ⟨a0, len0, cap0, rfl⟩ := okWide_slice Tryd.underlying22 (hval 0 22 v0 rfl rfl)
  have lt0 : ∀ x ∈ p, x.block < W.heap.size := by obtain ⟨m, hm⟩ := h0; exact DataW.trod_lt m _ _ _ hm
  obtain ⟨l0, x0⟩ := in_of h0
  clear hA0 hval0
  refine (walk a0 len0 cap0 l0 W (of_laid hL) x0).mono fun e W' ⟨he, bel⟩ => ?_
  subst he
  exact ⟨_, rfl, _, _, _, [], _, [], hW', trodAll_mk1 (shut_bool Tryd.underlying4 _), trodAll_mk1 (Below.trod laidOut (by kernel_rfl) (of_decide_eq_true (by kernel_rfl)) h0 bel lt0), rfl, bel.frame _, fun h => by cases h⟩

theorem row_holds : Rows.FrameWrapsSaid :=
  OpenClaim.holds_of_wide 3 Tryd.f3 rfl rfl rfl rfl rfl rfl rfl ⟨rfl, rfl, rfl, rfl, rfl⟩ rfl rfl rfl rfl rfl (by kernel_rfl) Tryd.func3 (by kernel_rfl)
    (of_decide_eq_true (by kernel_rfl)) (by unfold Func.isWrapper; first | (rw [if_pos (by decide +kernel)]; kernel_rfl) | (rw [if_neg (by decide +kernel)]; exact ⟨rfl, rfl⟩))
    (fun os started H enc _ => lifted os started H enc)
end FrameWraps

theorem frameWraps_card : Rows.FrameWrapsCardSaid :=
  Claim7.holds_tied_plain_at .later [] [.data] true (true, "ca6bb69d1a04dc826fde12ed1e7bb01ca13dd0c1cfea4e1e851075a0836fe676") false
    FrameWraps.row_holds (fun _ h => by cases h) (by kernel_rfl) (fun _ h => by cases h) frameWraps_row_tie rfl ⟨rfl, rfl⟩ (by kernel_rfl) rfl
    (fun f fn hf hfn => by
      obtain rfl : f = 3 := Option.some.inj ((show Tryd.prog.funcNamed "trug/truglaw10.FrameWraps" = some 3 by kernel_rfl).symm.trans hf) |>.symm
      obtain rfl : fn = Tryd.f3 := (Option.some.inj (Tryd.func3.symm.trans hfn)).symm
      exact ⟨by kernel_rfl, fun j t ht => by
        rw [Tryd.params3] at ht
        have hm : t ∈ [22] := by simpa using Array.mem_of_getElem? ht
        have hall : ([22].all fun u => !Tryd.prog.wantsStandIn u) = true := by kernel_rfl
        exact (show Tryd.prog.wantsStandIn t = false by simpa using List.all_eq_true.1 hall t hm)⟩)
    (by kernel_rfl)
#print axioms frameWraps_card
end Go.Proofs.YtphljhbeahkkaaaDoor
