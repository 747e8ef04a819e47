/- FrameFirst is proved: what stands in the frame at the beginning of any bytes, and in all frames there, is the document's, or refused; the table of four bits is tied to the program's text. No other condition. -/
import Derived.Test.YtphljhbeahkkaaaDoorRf
namespace Go.Proofs.YtphljhbeahkkaaaDoor
namespace FrameFirst
open Go.ChangeShapes Go.WideShapes Go.ChangeAt Go.RowKit

set_option maxHeartbeats 400000 in
theorem core_big (a : Option Addr) (len cap : Nat) (w : World) (hl : len ≤ 9223372036854775807) (hb : 3000 < len)
    (HA : Hid (Calls Tryd.prog 9 #[] w fun e w' => e = .returned (.bool true) ∧ Below w.heap.size w w')) :
    Calls Tryd.prog 4 #[.slice a len cap] w fun e w' => e = .returned (.bool true) ∧ Below w.heap.size w w' := by
  go_enter Tryd.func4, Tryd.ntmps4
  go_wp2_with fail
  refine HA.out.mono ?_
  rintro e w1 ⟨rfl, hB⟩
  have HB := Lib.hid hB
  clear hB HA
  go_wp2_with fail
  go_ret
  exact ⟨rfl, HB.out⟩

set_option maxHeartbeats 1000000 in
set_option maxRecDepth 100000 in
theorem core (a : Option Addr) (len cap : Nat) (l : List Nat) (w : World) (hlen : len ≤ 3000) (hT : Hid (Tab w)) (hX : Hid (In w a len cap l))
    (HA : Hid (Calls Tryd.prog 9 #[] w fun e w' => e = .returned (.bool true) ∧ Below w.heap.size w w')) :
    Calls Tryd.prog 4 #[.slice a len cap] w fun e w' => e = .returned (.bool true) ∧ Below w.heap.size w w' := by
  have HLE := Lib.hid (Frm.scan_le l)
  have HSZ := Lib.hid hX.out.row.size
  go_enter Tryd.func4, Tryd.ntmps4
  go_wp2_with fail
  refine HA.out.mono ?_
  rintro e w1 ⟨rfl, hB⟩
  have HB := Lib.hid hB
  have HX1 := Lib.hid (hX.out.below hB)
  have HT1 := Lib.hid (hT.out.below hB)
  have HSM := Lib.hid (Frm.first_small (bs := l) HX1.out.row.small)
  have HW := Lib.hid (first_any a len cap l w1 HT1.out HX1.out.row HX1.out.nil HX1.out.le (by omega))
  clear hB HA hX hT
  go_wp2_with fail
  refine HW.out.mono ?_
  rintro e w2 ⟨a2, c2, rfl, ho2, hb2⟩
  have HR2 := Lib.hid (ho2.row HSM.out)
  have HX2 := Lib.hid (HX1.out.below hb2)
  have HT2 := Lib.hid (HT1.out.below hb2)
  have HB2 := Lib.hid (HB.out.trans (hb2.mono HB.out.size))
  have HW2 := Lib.hid (rfirst_any a len cap l w2 HX2.out.row HX2.out.nil HX2.out.le (by omega))
  clear ho2 hb2 HW HB HX1 HT1
  go_wp2_with fail
  refine HW2.out.mono ?_
  rintro e w3 ⟨a3, c3, rfl, hr3, _, _, _, hb3⟩
  have HB3 := Lib.hid (HB2.out.trans (hb3.mono HB2.out.size))
  have HX3 := Lib.hid (HX2.out.below hb3)
  have HT3 := Lib.hid (HT2.out.below hb3)
  have hv1 := conv_any (cap := c2) (HR2.out.below hb3)
  have hv2 := conv_any (cap := c3) hr3
  have HW3 := Lib.hid (scan_any a len cap l w3 HT3.out HX3.out.row HX3.out.nil HX3.out.le (by omega))
  clear hb3 hr3 HW2 HX2 HT2 HB2 HR2 HSM
  generalize strOf (Frm.first l).1 = z at hv1 hv2
  generalize (Frm.first l).1.length = F at *
  generalize (Frm.first l).2.1 = F1 at *
  generalize (Frm.first l).2.2 = F2 at *
  go_wp2_with fail
  clear hv1 hv2
  refine HW3.out.mono ?_
  rintro e w4 ⟨a4, c4, rfl, hl4, hb4⟩
  have HL4 := Lib.hid hl4
  have HB4 := Lib.hid (HB3.out.trans (hb4.mono HB3.out.size))
  have HX4 := Lib.hid (HX3.out.below hb4)
  have HW4 := Lib.hid (rscan_any a len cap l w4 HX4.out.row HX4.out.nil HX4.out.le (by omega))
  clear hl4 hb4 HW3 HX3 HT3 HB3
  go_wp2_with fail
  refine HW4.out.mono ?_
  rintro e w5 ⟨a5, c5, rfl, hl5, hb5⟩
  have HL5 := Lib.hid hl5
  have HL45 := Lib.hid (HL4.out.below hb5)
  have HB5 := Lib.hid (HB4.out.trans (hb5.mono HB4.out.size))
  have HN : Hid ((Frm.scan l).1.length ≤ 3000) := Lib.hid (by have := HLE.out; have := HSZ.out; omega)
  clear hl5 hb5 HW4 HX4 HL4 HB4 HLE HSZ
  generalize (Frm.scan l).2 = K at *
  generalize (Frm.scan l).1 = L at *
  generalize L.length = n at *
  have hn := HN.out
  clear HN
  go_wp2_with fail
  go_loopw [68] (fun i wr => ∃ k : Nat, k ≤ n ∧ i = .int .i64 (k : Int) ∧ Hid (Below w5.heap.size w5 wr)) (fun i _ => n - (intOf i).toNat)
  case atStart => exact ⟨0, by omega, rfl, Lib.hid (Below.refl _ _)⟩
  case round =>
    obtain ⟨k, hk, rfl, HBR⟩ := hrel
    by_cases hkn : k < n
    · have hbd : Below w5.heap.size w5 wr.drew := HBR.out.trans (Below.refl _ _).drew
      obtain ⟨g4, v4, rfl, hc4, x4, n4, d4, rfl, hr4, _⟩ := (HL45.out.below hbd).cell hkn
      obtain ⟨g5, v5, rfl, hc5, x5, n5, d5, rfl, hr5, _⟩ := (HL5.out.below hbd).cell hkn
      have hv1 := conv_any (cap := d4) hr4
      have hv2 := conv_any (cap := d5) hr5
      have HBD := Lib.hid hbd
      clear hr4 hr5 hbd
      generalize strOf (L.getD k []) = z at hv1 hv2
      go_wp2_with fail
      go_region_with fail
      all_goals go_wp2_with fail
      all_goals
        go_roundw
        case rel => exact ⟨k + 1, by omega, by go_num, HBD⟩
        case measure => simp [intOf]; omega
    · obtain rfl : k = n := by omega
      go_wp2_with fail
      go_ret
      exact ⟨rfl, HB5.out.trans (HBR.out.mono HB5.out.size)⟩

theorem walk (a : Option Addr) (len cap : Nat) (l : List Nat) (w : World) (hT : Tab w) (hX : In w a len cap l) :
    Calls Tryd.prog 4 #[.slice a len cap] w fun e w' => e = .returned (.bool true) ∧ Below w.heap.size w w' := by
  have HA := Lib.hid (alive_any w hT)
  by_cases hb : 3000 < len
  · exact core_big a len cap w hX.max hb HA
  · exact core a len cap l w (by omega) (Lib.hid hT) (Lib.hid hX) HA

set_option maxRecDepth 100000 in
theorem lifted (os : Os) (started : os.Started) (H : Type) (enc : TypeId × Value → H) :
    ReturnsInHanded {} Tryd.checked os 4 .any (fun w args => (Rows.frameFirstSpec.pre enc Tryd.prog Tryd.f4 [] false w args ∧ laidMetH Tryd.prog laid1 w) ∧ sizedMet enc Tryd.prog Tryd.f4 (OpenSpec.ofChange Rows.frameFirstSpec) false w args)
      (Rows.frameFirstSpec.post enc Tryd.prog Tryd.f4 false true false false) := by
  refine returnsInHanded_of_change_and (C := Tryd.checked) (X := fun w _ => laidMetH Tryd.prog laid1 w) (fun _ _ _ hh h => h.of_heap hh) own started (by kernel_rfl) Tryd.func4
    (ChangeSpec.witness_shaped (enc := enc) (C := Tryd.checked) (os := os) (X := fun w _ => laidMetH Tryd.prog laid1 w) false (World.doorLaid Tryd.prog 14 os) #[.slice none 0 0] 8 rfl (World.shaped_of_RefB (by kernel_rfl) (by kernel_rfl)) (by kernel_rfl) (by kernel_rfl) (by kernel_rfl) (door_met os _)) ?_
  intro W base args ds gs before hval0 hW _ _ hL _
  have hval : ∀ (j : Nat) t v, Tryd.f4.params[j]? = some t → args[j]? = some v → Value.okWide Tryd.prog W .any base t v := hval0
  have hW' := hW
  obtain ⟨p, q, hA0, hV, rfl, hfz, hnd⟩ := hW
  have hA : DataW.TrodAll enc Tryd.prog W 0 (fun _ => true) true Tryd.f4.params.toList args.toList ds p := hA0
  rw [Tryd.params4] at hA hval
  obtain ⟨v0, d0, rfl, rfl, h0⟩ := trodAll_one hA
  obtain ⟨rfl, rfl⟩ := trodVars_none hV
  obtain ⟨a0, len0, cap0, rfl⟩ := okWide_slice Tryd.underlying22 (hval 0 22 v0 rfl rfl)
  have lt0 : ∀ x ∈ p, x.block < W.heap.size := by obtain ⟨m, hm⟩ := h0; exact DataW.trod_lt m _ _ _ hm
  obtain ⟨l0, x0⟩ := in_of h0
  clear hA0 hval0
  refine (walk a0 len0 cap0 l0 W (of_laid hL) x0).mono fun e W' ⟨he, bel⟩ => ?_
  subst he
  exact ⟨_, rfl, _, _, _, [], _, [], hW', trodAll_mk1 (shut_bool Tryd.underlying4 _), trodAll_mk1 (Below.trod laidOut (by kernel_rfl) (of_decide_eq_true (by kernel_rfl)) h0 bel lt0), rfl, bel.frame _, fun h => by cases h⟩

theorem row_holds : Rows.FrameFirstSaid :=
  OpenClaim.holds_of_wide 4 Tryd.f4 rfl rfl rfl rfl rfl rfl rfl ⟨rfl, rfl, rfl, rfl, rfl⟩ rfl rfl rfl rfl rfl (by kernel_rfl) Tryd.func4 (by kernel_rfl)
    (of_decide_eq_true (by kernel_rfl)) (by unfold Func.isWrapper; first | (rw [if_pos (by decide +kernel)]; kernel_rfl) | (rw [if_neg (by decide +kernel)]; exact ⟨rfl, rfl⟩))
    (fun os started H enc _ => lifted os started H enc)
end FrameFirst

theorem frameFirst_card : Rows.FrameFirstCardSaid :=
  Claim7.holds_tied_plain_at .later [] [.data] true (true, "ca6bb69d1a04dc826fde12ed1e7bb01ca13dd0c1cfea4e1e851075a0836fe676") false
    FrameFirst.row_holds (fun _ h => by cases h) (by kernel_rfl) (fun _ h => by cases h) frameFirst_row_tie rfl ⟨rfl, rfl⟩ (by kernel_rfl) rfl
    (fun f fn hf hfn => by
      obtain rfl : f = 4 := Option.some.inj ((show Tryd.prog.funcNamed "trug/truglaw10.FrameFirst" = some 4 by kernel_rfl).symm.trans hf) |>.symm
      obtain rfl : fn = Tryd.f4 := (Option.some.inj (Tryd.func4.symm.trans hfn)).symm
      exact ⟨by kernel_rfl, fun j t ht => by
        rw [Tryd.params4] at ht
        have hm : t ∈ [22] := by simpa using Array.mem_of_getElem? ht
        have hall : ([22].all fun u => !Tryd.prog.wantsStandIn u) = true := by kernel_rfl
        exact (show Tryd.prog.wantsStandIn t = false by simpa using List.all_eq_true.1 hall t hm)⟩)
    (by kernel_rfl)
#print axioms frameFirst_card
end Go.Proofs.YtphljhbeahkkaaaDoor
