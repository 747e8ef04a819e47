/- FrameSizes is proved: a frame has as many bytes as what is in it, its number, and four more, and no beginning of it is one; the table of four bits is tied to the program's text. No other condition. -/
import Derived.Test.YtphljhbeahkkaaaDoorLw
namespace Go.Proofs.YtphljhbeahkkaaaDoor
namespace FrameSizes
open Go.ChangeShapes Go.WideShapes Go.ChangeAt Go.RowKit

set_option maxHeartbeats 400000 in
theorem core_big (a : Option Addr) (len cap n : Nat) (w : World) (hl : len ≤ 9223372036854775807) (hb : 1500 < len)
    (HA : Hid (Calls Tryd.prog 9 #[] w fun e w' => e = .returned (.bool true) ∧ Below w.heap.size w w')) :
    Calls Tryd.prog 7 #[.slice a len cap, .int .u16 (n : Int)] w fun e w' => e = .returned (.bool true) ∧ Below w.heap.size w w' := by
  go_enter Tryd.func7, Tryd.ntmps7
  go_wp2_with fail
  refine HA.out.mono ?_
  rintro e w1 ⟨rfl, hB⟩
  have HB := Lib.hid hB
  clear hB HA
  go_wp2_with fail
  go_ret
  exact ⟨rfl, HB.out⟩

set_option maxHeartbeats 1000000 in
set_option maxRecDepth 100000 in
theorem core (a : Option Addr) (len cap n F j : Nat) (l : List Nat) (w : World) (hlen : len ≤ 1500) (hn : n < 65536) (hT : Hid (Tab w)) (hX : Hid (In w a len cap l)) (hF : Hid ((Frm.fr l).length = F)) (hF0 : 0 < F) (hF1 : F ≤ 2000) (hj : (n : Int) % (F : Int) = (j : Int)) (hjF : j < F)
    (HA : Hid (Calls Tryd.prog 9 #[] w fun e w' => e = .returned (.bool true) ∧ Below w.heap.size w w')) :
    Calls Tryd.prog 7 #[.slice a len cap, .int .u16 (n : Int)] w fun e w' => e = .returned (.bool true) ∧ Below w.heap.size w w' := by
  have HF2 : Hid (F = len + (Vint.enc len).length + 4) := Lib.hid (by rw [← hF.out, Frm.fr_len, hX.out.row.size]; omega)
  have hFz : ((F : Int) == 0) = false := by simp; omega
  have HFC : Hid (Frm.first ((Frm.fr l).take j) = ([], 0, 4)) := Lib.hid (Frm.first_cut (by rw [hX.out.row.size]; omega) (by rw [hF.out]; exact hjF))
  go_enter Tryd.func7, Tryd.ntmps7
  go_wp2_with fail
  refine HA.out.mono ?_
  rintro e w1 ⟨rfl, hB⟩
  have HB := Lib.hid hB
  have HX1 := Lib.hid (hX.out.below hB)
  have HT1 := Lib.hid (hT.out.below hB)
  have HW := Lib.hid (wrap_any a len cap l w1 HT1.out HX1.out.row HX1.out.nil (by omega))
  clear hB HA hX hT
  go_wp2_with fail
  refine HW.out.mono ?_
  rintro e w2 ⟨a2, c2, rfl, ho2, hb2⟩
  rw [hF.out] at ho2 ⊢
  have HO2 := Lib.hid ho2
  have HB2 := Lib.hid (HB.out.trans (hb2.mono HB.out.size))
  have HT2 := Lib.hid (HT1.out.below hb2)
  have HP := Lib.hid (rput_any len w2 (by omega))
  have hE := Vint.enc_ten (n := len) (by omega)
  have hc2 := ho2.cap.1
  have HSM := Lib.hid (Frm.fr_lt HX1.out.row.small)
  clear ho2 hb2 HW HB
  generalize Vint.enc len = ex at HP hE HF2
  go_wp2_with fail
  refine HP.out.mono ?_
  rintro e w3 ⟨g3, c3, rfl, ho3, hb3⟩
  clear ho3 HP
  have HR3 := Lib.hid (((HO2.out.row HSM.out).below hb3).upto (k := j) (by omega))
  have HN3 := Lib.hid HO2.out.cap.2.2
  have HB3 := Lib.hid (HB2.out.trans (hb3.mono HB2.out.size))
  have HT3 := Lib.hid (HT2.out.below hb3)
  clear hb3 HB2 HT2 HT1 HX1
  generalize ex.length = L at hE HF2
  have hne : ((F : Int) != (len : Int) + (L : Int) + 4) = false := by have := HF2.out; simp; omega
  have hs := fun W => slice_hz .i64 a2 F c2 j (j : Int) rfl (by omega) W
  go_wp2_with fail
  refine (first_any a2 j c2 _ w3 HT3.out HR3.out (fun h => by have := HN3.out h; omega) (by omega) (by omega)).mono ?_
  rintro e w4 ⟨a4, c4, rfl, ho4, hb4⟩
  rw [HFC.out]
  have HB4 := Lib.hid (HB3.out.trans (hb4.mono HB3.out.size))
  clear ho4 hb4
  go_wp2_with fail
  go_ret
  exact ⟨rfl, HB4.out⟩

theorem walk (a : Option Addr) (len cap : Nat) (l : List Nat) (n : Nat) (w : World) (hT : Tab w) (hX : In w a len cap l) (hn : n < 65536) :
    Calls Tryd.prog 7 #[.slice a len cap, .int .u16 (n : Int)] w fun e w' => e = .returned (.bool true) ∧ Below w.heap.size w w' := by
  have HA := Lib.hid (alive_any w hT)
  by_cases hb : 1500 < len
  · exact core_big a len cap n w hX.max hb HA
  · have h1 := Frm.fr_pos l
    have h2 := Frm.fr_len l
    have h3 := Vint.enc_ten (n := l.length) (by have := hX.row.size; omega)
    have h4 := hX.row.size
    exact core a len cap n (Frm.fr l).length (n % (Frm.fr l).length) l w (by omega) hn (Lib.hid hT) (Lib.hid hX) (Lib.hid rfl) (by omega) (by omega) (by simp) (Nat.mod_lt _ (by omega)) HA

set_option maxRecDepth 100000 in
theorem lifted (os : Os) (started : os.Started) (H : Type) (enc : TypeId × Value → H) :
    ReturnsInHanded {} Tryd.checked os 7 .any (fun w args => (Rows.frameSizesSpec.pre enc Tryd.prog Tryd.f7 [] false w args ∧ laidMetH Tryd.prog laid1 w) ∧ sizedMet enc Tryd.prog Tryd.f7 (OpenSpec.ofChange Rows.frameSizesSpec) false w args)
      (Rows.frameSizesSpec.post enc Tryd.prog Tryd.f7 false true false false) := by
  refine returnsInHanded_of_change_and (C := Tryd.checked) (X := fun w _ => laidMetH Tryd.prog laid1 w) (fun _ _ _ hh h => h.of_heap hh) own started (by kernel_rfl) Tryd.func7
    (ChangeSpec.witness_shaped (enc := enc) (C := Tryd.checked) (os := os) (X := fun w _ => laidMetH Tryd.prog laid1 w) false (World.doorLaid Tryd.prog 14 os) #[.slice none 0 0, .int .u16 0] 8 rfl (World.shaped_of_RefB (by kernel_rfl) (by kernel_rfl)) (by kernel_rfl) (by kernel_rfl) (by kernel_rfl) (door_met os _)) ?_
  intro W base args ds gs before hval0 hW _ _ hL _
  have hval : ∀ (j : Nat) t v, Tryd.f7.params[j]? = some t → args[j]? = some v → Value.okWide Tryd.prog W .any base t v := hval0
  have hW' := hW
  obtain ⟨p, q, hA0, hV, rfl, hfz, hnd⟩ := hW
  have hA : DataW.TrodAll enc Tryd.prog W 0 (fun _ => true) true Tryd.f7.params.toList args.toList ds p := hA0
  rw [Tryd.params7] at hA hval
  obtain ⟨v0, v1, d0, d1, p0, p1, rfl, rfl, rfl, h0, h1⟩ := trodAll_two hA
  obtain ⟨rfl, rfl⟩ := trodVars_none hV
  obtain ⟨a0, len0, cap0, rfl⟩ := okWide_slice Tryd.underlying22 (hval 0 22 v0 rfl rfl)
  obtain ⟨m1, rfl, rfl, rfl, w1⟩ := open_int Tryd.underlying37 (hval 1 37 v1 rfl rfl) h1
  have lt0 : ∀ x ∈ p0, x.block < W.heap.size := by obtain ⟨m, hm⟩ := h0; exact DataW.trod_lt m _ _ _ hm
  obtain ⟨l0, x0⟩ := in_of h0
  have c1 := bounds_u16 w1
  obtain ⟨n1, rfl⟩ := Int.eq_ofNat_of_zero_le c1.1
  clear hA0 hval0
  refine (walk a0 len0 cap0 l0 n1 W (of_laid hL) x0 (by omega)).mono fun e W' ⟨he, bel⟩ => ?_
  subst he
  exact ⟨_, rfl, _, _, _, [], _, [], hW', trodAll_mk1 (shut_bool Tryd.underlying4 _), trodAll_mk2 (Below.trod laidOut (by kernel_rfl) (of_decide_eq_true (by kernel_rfl)) h0 bel lt0) (shut_int Tryd.underlying37 w1), rfl, bel.frame _, fun h => by cases h⟩

theorem row_holds : Rows.FrameSizesSaid :=
  OpenClaim.holds_of_wide 7 Tryd.f7 rfl rfl rfl rfl rfl rfl rfl ⟨rfl, rfl, rfl, rfl, rfl⟩ rfl rfl rfl rfl rfl (by kernel_rfl) Tryd.func7 (by kernel_rfl)
    (of_decide_eq_true (by kernel_rfl)) (by unfold Func.isWrapper; first | (rw [if_pos (by decide +kernel)]; kernel_rfl) | (rw [if_neg (by decide +kernel)]; exact ⟨rfl, rfl⟩))
    (fun os started H enc _ => lifted os started H enc)
end FrameSizes

theorem frameSizes_card : Rows.FrameSizesCardSaid :=
  Claim7.holds_tied_plain_at .later [] [.data] true (true, "ca6bb69d1a04dc826fde12ed1e7bb01ca13dd0c1cfea4e1e851075a0836fe676") false
    FrameSizes.row_holds (fun _ h => by cases h) (by kernel_rfl) (fun _ h => by cases h) frameSizes_row_tie rfl ⟨rfl, rfl⟩ (by kernel_rfl) rfl
    (fun f fn hf hfn => by
      obtain rfl : f = 7 := Option.some.inj ((show Tryd.prog.funcNamed "trug/truglaw10.FrameSizes" = some 7 by kernel_rfl).symm.trans hf) |>.symm
      obtain rfl : fn = Tryd.f7 := (Option.some.inj (Tryd.func7.symm.trans hfn)).symm
      exact ⟨by kernel_rfl, fun j t ht => by
        rw [Tryd.params7] at ht
        have hm : t ∈ [22, 37] := by simpa using Array.mem_of_getElem? ht
        have hall : ([22, 37].all fun u => !Tryd.prog.wantsStandIn u) = true := by kernel_rfl
        exact (show Tryd.prog.wantsStandIn t = false by simpa using List.all_eq_true.1 hall t hm)⟩)
    (by kernel_rfl)
#print axioms frameSizes_card
end Go.Proofs.YtphljhbeahkkaaaDoor
