/- FrameBack is proved: frames that stand one behind the other are all found; of a beginning of them just those that are whole; the table of four bits is tied to the program's text. No other condition. -/
import Derived.Test.YtphljhbeahkkaaaDoorBk
namespace Go.Proofs.YtphljhbeahkkaaaDoor
namespace FrameBack
open Go.ChangeShapes Go.WideShapes Go.ChangeAt Go.RowKit

set_option maxHeartbeats 4000000 in
set_option maxRecDepth 100000 in
theorem walk (a : Option Addr) (len cap : Nat) (ls : List (List Nat)) (c : Nat) (w : World) (hT0 : Tab w) (hX0 : Ins w a len ls) (hcut : c < 65536) :
    Calls Tryd.prog 5 #[.slice a len cap, .int .u16 (c : Int)] w fun e w' => e = .returned (.bool true) ∧ Below w.heap.size w w' := by
  have HA := Lib.hid (alive_any w hT0)
  have hT := Lib.hid hT0
  have hX := Lib.hid hX0
  have hmax := hX0.max
  have HSM := Lib.hid (hX0.small)
  have HLN := Lib.hid (hX0.size)
  clear hT0 hX0
  go_enter Tryd.func5, Tryd.ntmps5
  go_wp2_with fail
  refine HA.out.mono ?_
  rintro e w1 ⟨rfl, hB⟩
  have HB1 := Lib.hid hB
  clear hB HA
  go_wp2_with fail
  go_loopw [5, 6, 7, 8] (fun o es hd i wr => ∃ (k m n c1 c2 c3 : Nat) (a1 a2 a3 : Option Addr), k ≤ len ∧ k ≤ 20 ∧ m ≤ 314 * k ∧ n ≤ k ∧ o = .slice a1 m c1 ∧ es = .slice a2 n c2 ∧ hd = .slice a3 n c3 ∧ i = .int .i64 (k : Int) ∧ Hid (Own wr w.heap.size a1 m c1 (Frm.frs (took ls k))) ∧ Hid (OwnI wr w.heap.size a2 n c2 (endsL (took ls k))) ∧ Hid (Old wr w.heap.size a3 n c3 (took ls k)) ∧ Hid (Below w.heap.size w wr)) (fun _ _ _ i _ => len - (intOf i).toNat)
  case atStart => exact ⟨0, 0, 0, 0, 0, 0, none, none, none, by omega, by omega, by omega, by omega, rfl, rfl, rfl, rfl, Lib.hid (by rw [took_zero]; exact own_nil _ _), Lib.hid (by rw [took_zero]; exact OwnI.nil _ _), Lib.hid (by rw [took_zero]; exact Old.nil _ _), HB1⟩
  case round =>
    obtain ⟨k, m, n, c1, c2, c3, a1, a2, a3, hk, hk2, hm, hn, rfl, rfl, rfl, rfl, HO, HI, HD, HB⟩ := hrel
    by_cases hkl : k < len ∧ k < 20
    · obtain ⟨hkl, hk20⟩ := hkl
      obtain ⟨b, off, rfl, hcs⟩ := hX.out.cells.resolve_left (by omega)
      obtain ⟨ai, li, ci, hc0, hin⟩ := hcs k hkl
      have HIN := Lib.hid hin
      have HC : Hid (∀ W, Below w.heap.size w W → W.cell? ⟨b, off + k, none⟩ = some (.slice ai li ci)) := Lib.hid (fun W hb => below_at hb hc0)
      have HSL : Hid (∀ W, Below w.heap.size w W → Sl W (.slice ai li ci) (ls.getD k []) (fun i => w.heap.size ≤ i)) := Lib.hid (fun W hb => ⟨ai, li, ci, rfl, hin.row.below hb, hin.nil, hin.le, fun ad ha h0 hlt => by have := hin.row.lt ad ha h0; omega⟩)
      have hlsz := hin.row.size
      have hlmax := hin.max
      clear hcs hin hc0
      have hc1 := HC.out wr HB.out
      by_cases h3 : 300 < li
      · have HTK := Lib.hid (took_no (ls := ls) (k := k) (by rw [HLN.out]; exact hkl) (by rw [hlsz]; exact h3))
        clear hlsz
        go_wp2_with fail
        go_roundw
        case rel => exact ⟨k + 1, m, n, c1, c2, c3, a1, a2, a3, by omega, by omega, by omega, by omega, rfl, rfl, rfl, by go_num, Lib.hid (by rw [HTK.out]; exact HO.out), Lib.hid (by rw [HTK.out]; exact HI.out), Lib.hid (by rw [HTK.out]; exact HD.out), HB⟩
        case measure => simp [intOf]; omega
      · have HTK := Lib.hid (took_yes (ls := ls) (k := k) (by rw [HLN.out]; exact hkl) (by rw [hlsz]; omega))
        have hF1 := Frm.fr_len (ls.getD k [])
        have hF2 := Vint.enc_ten (n := (ls.getD k []).length) (by omega)
        have hF4 := Vint.enc_pos (ls.getD k []).length
        rw [hlsz] at hF1 hF2 hF4
        have HW := Lib.hid (wrap_any ai li ci (ls.getD k []) wr (hT.out.below HB.out) (HIN.out.row.below HB.out) HIN.out.nil (by omega))
        have HSF := Lib.hid (Frm.fr_lt (l := ls.getD k []) HIN.out.row.small)
        have HFS := Lib.hid (Frm.frs_snoc (took ls k) (ls.getD k []))
        have HES := Lib.hid (endsL_snoc (ls.getD k []) (took ls k))
        have hF3 : (Frm.fr (ls.getD k [])).length ≤ 314 := by omega
        have hF5 : li + 5 ≤ (Frm.fr (ls.getD k [])).length := by omega
        clear hlsz hF1 hF2 hF4
        generalize ls.getD k [] = x at *
        go_wp2_with fail
        refine HW.out.mono ?_
        rintro e w2 ⟨a4, c4, rfl, ho2, hb2⟩
        clear HW hc1
        generalize Frm.fr x = fx at *
        have HR2 := Lib.hid (ho2.row HSF.out)
        have HZ2 := Lib.hid ho2.cap.2.2
        have HO2 := Lib.hid (HO.out.below hb2)
        have HI2 := Lib.hid (HI.out.below hb2)
        have HD2 := Lib.hid (HD.out.below hb2)
        have HB2 := Lib.hid (HB.out.trans (hb2.mono HB.out.size))
        have hc2 := HC.out w2 HB2.out
        clear ho2 hb2
        generalize fx.length = F at *
        go_wp2_with (at_builtin; first
          | (refine wpList_append_own_row w2 rfl _ _ rfl w.heap.size a1 m c1 (Frm.frs (took ls k)) rfl HO2.out a4 F c4 fx rfl HR2.out HZ2.out (by omega) HB2.out.size ?_
             intro a5 c5 w3 ho3 hk3 _
             have hm2 : m + F ≤ 314 * (k + 1) := by omega
             generalize m + F = m2 at *
             have HO3 := Lib.hid ho3
             have HK3 : Hid (Kept (At a1) w2 w3) := Lib.hid hk3
             have HB3 := Lib.hid (HB2.out.trans (hk3.below HB2.out.size (fun i ⟨ad, h1, h2⟩ => by have := (HO2.out.lt ad h1).1; omega)))
             have HI3 := Lib.hid (HI2.out.keep HK3.out (kinds_apart HI2.out HO2.out (by decide)))
             have HD3 := Lib.hid (HD2.out.keep HK3.out (by obtain ⟨xs, h1, _⟩ := HD2.out.own; exact kinds_apart h1 HO2.out (by decide)) (fun i ⟨ad, h1, h2⟩ => by have := (HO2.out.lt ad h1).1; omega))
             clear ho3 hk3 hc2)
          | (refine wpList_append_int w3 HI3.out HB3.out.size (by omega) rfl _ _ rfl rfl rfl ?_
             intro g6 c6 w4 hi4 hk4
             have HI4 := Lib.hid hi4
             have HK4 := Lib.hid hk4
             have HB4 := Lib.hid (HB3.out.trans (hk4.below HB3.out.size (fun i hi => (HI3.out.lt i hi).1)))
             have HO4 := Lib.hid (HO3.out.keep HK4.out (fun ad ha hat => kinds_apart HI3.out HO3.out (by decide) _ hat ⟨ad, ha, rfl⟩))
             have HD4 := Lib.hid (HD3.out.keep HK4.out (by obtain ⟨xs, h1, _⟩ := HD3.out.own; exact kinds_apart h1 HI3.out (by decide)) (fun i hi => (HI3.out.lt i hi).1))
             have hc4 := HC.out w4 HB4.out
             clear hi4 hk4)
          | (refine wpList_append_old w4 HD4.out (HSL.out w4 HB4.out) HB4.out.size (by omega) rfl _ _ rfl rfl rfl ?_
             intro g7 c7 w5 hd5 hk5
             have HD5 := Lib.hid hd5
             have HK5 := Lib.hid hk5
             clear hd5 hk5 hc4))
        go_roundw
        case rel =>
          refine ⟨k + 1, m2, n + 1, c5, c6, c7, a5, _, _, by omega, by omega, hm2, by omega, rfl, rfl, rfl, by go_num, Lib.hid ?_, Lib.hid ?_, Lib.hid ?_, Lib.hid (HB4.out.trans (HK5.out.below HB4.out.size (fun i hi => (HD4.out.lt i hi).1)))⟩
          · rw [HTK.out, HFS.out]
            exact HO4.out.keep HK5.out (fun ad ha hat => by obtain ⟨xs, h1, _⟩ := HD4.out.own; exact kinds_apart h1 HO4.out (by decide) _ hat ⟨ad, ha, rfl⟩)
          · rw [HTK.out, HES.out, HFS.out, HO4.out.len]
            exact HI4.out.keep HK5.out (by obtain ⟨xs, h1, _⟩ := HD4.out.own; exact kinds_apart HI4.out h1 (by decide))
          · rw [HTK.out]
            exact HD5.out
        case measure => simp [intOf]; omega
    · have HMEM : Hid (∀ l ∈ took ls k, l.length ≤ 300 ∧ ∀ c ∈ l, c < 256) := Lib.hid (fun l hl => ⟨(took_mem hl).2, HSM.out l (took_mem hl).1⟩)
      generalize took ls k = T at *
      have HSMT := Lib.hid (Frm.frs_small (fun l hl => (HMEM.out l hl).2))
      have HRT := Lib.hid (HO.out.row HSMT.out)
      have HZT := Lib.hid HO.out.cap
      have HTL := Lib.hid HD.out.size
      have hjn : (c : Int) % ((m : Int) + 1) = ((c % (m + 1) : Nat) : Int) := by simp
      have hjz : ((m : Int) + 1 == 0) = false := by simp; omega
      have hjl : c % (m + 1) < m + 1 := Nat.mod_lt _ (by omega)
      generalize c % (m + 1) = j at hjn hjl
      have HPS := Lib.hid (pass_ends T j)
      have HSC := Lib.hid (Frm.scan_cut T j (fun l hl => by have := (HMEM.out l hl).1; omega))
      have HSA : Hid (Frm.scan (Frm.frs T) = (T, m)) := Lib.hid (by
        have := Frm.scan_frs T [] (fun l hl => by have := (HMEM.out l hl).1; omega)
        rw [List.append_nil, Frm.scan_nil, List.append_nil, HO.out.len] at this
        exact this)
      have hW1 := whole_le T j
      rw [HTL.out] at hW1
      by_cases hkl1 : k < len
      all_goals
        first
          | (have hkl2 : ¬ k < 20 := by omega)
          | skip
        go_wp2_with fail
        simp only [hjn]
        clear hjn hjz
        go_loop [12, 13, 83] (fun wh en i => ∃ z u v : Nat, z ≤ n ∧ u ≤ z ∧ wh = .int .i64 (u : Int) ∧ en = .int .i64 (v : Int) ∧ i = .int .i64 (z : Int) ∧ Hid (pass j ((endsL T).take z) = (u, v))) (fun _ _ i => n - (intOf i).toNat)
        case atStart => exact ⟨0, 0, 0, by omega, by omega, rfl, rfl, rfl, Lib.hid rfl⟩
        case round =>
          obtain ⟨z, u, v, hz, hu, rfl, rfl, rfl, HP⟩ := hrel
          by_cases hzn : z < n
          · obtain ⟨g2, rfl, hce⟩ := HI.out.cell hzn
            have hlen2 := HI.out.len
            have HTZ : Hid ((endsL T).take (z + 1) = (endsL T).take z ++ [(endsL T).getD z 0]) := Lib.hid (by
              have h : z < (endsL T).length := by omega
              rw [List.take_succ_eq_append_getElem h, getD_at h])
            clear hlen2
            generalize (endsL T).getD z 0 = x at hce HTZ
            by_cases hxj : x ≤ j
            · go_wp2_with fail
              go_round
              case rel => exact ⟨z + 1, u + 1, x, by omega, by omega, by go_num, rfl, by go_num, Lib.hid (by rw [HTZ.out, pass_yes hxj, HP.out])⟩
              case measure => simp [intOf]; omega
            · go_wp2_with fail
              go_round
              case rel => exact ⟨z + 1, u, v, by omega, by omega, rfl, rfl, by go_num, Lib.hid (by rw [HTZ.out, pass_no (by omega), HP.out])⟩
              case measure => simp [intOf]; omega
          · obtain rfl : z = n := by omega
            have hlen2 := HI.out.len
            have HWH : Hid (Frm.whole j T = (u, v)) := Lib.hid (by
              have := HP.out
              rw [List.take_of_length_le (by omega), HPS.out] at this
              exact this)
            clear hlen2
            have HSJ : Hid (Frm.scan ((Frm.frs T).take j) = (T.take u, v)) := Lib.hid (by rw [HSC.out, HWH.out])
            have hW2 : u ≤ z := hu
            have HUL : Hid ((T.take u).length = u) := Lib.hid (by rw [List.length_take, HTL.out]; omega)
            have hs := fun W => slice_hz .i64 a1 m c1 j (j : Int) rfl (by have := HZT.out.1; omega) W
            have HRJ := Lib.hid (HRT.out.upto (k := j) (by omega))
            have HSN := Lib.hid (scan_any a1 j c1 ((Frm.frs T).take j) wr (hT.out.below HB.out) HRJ.out (fun h => by have := HZT.out.2.2 h; omega) (by have := HZT.out.1; omega) (by omega))
            clear hW1
            go_wp2_with fail
            clear hs
            refine HSN.out.mono ?_
            rintro e w2 ⟨a5, c5, rfl, hl5, hb5⟩
            rw [HSJ.out] at hl5 ⊢
            simp only [HUL.out] at hl5 ⊢
            have HL5 := Lib.hid hl5
            have HD5 := Lib.hid (HD.out.below hb5)
            have HB5 := Lib.hid (HB.out.trans (hb5.mono HB.out.size))
            have HR5 := Lib.hid (HRT.out.below hb5)
            clear hl5 hb5 HSN HRJ
            go_wp2_with fail
            go_loopw [112] (fun i wr => ∃ y : Nat, y ≤ u ∧ i = .int .i64 (y : Int) ∧ Hid (Below w2.heap.size w2 wr)) (fun i _ => u - (intOf i).toNat)
            case atStart => exact ⟨0, by omega, rfl, Lib.hid (Below.refl _ _)⟩
            case round =>
              obtain ⟨y, hy, rfl, HBR⟩ := hrel
              by_cases hyu : y < u
              · have hbd : Below w2.heap.size w2 wr.drew := HBR.out.trans (Below.refl _ _).drew
                obtain ⟨g5, v5, rfl, hc5, x5, n5, d5, rfl, hr5, _⟩ := (HL5.out.below hbd).cell hyu
                obtain ⟨g6, v6, rfl, hc6, x6, n6, d6, rfl, hr6, _⟩ := (HD5.out.below hbd).cell (i := y) (by omega)
                rw [getD_took T u y hyu] at hr5
                have hv1 := conv_any (cap := d5) hr5
                have hv2 := conv_any (cap := d6) hr6
                have HBD := Lib.hid hbd
                clear hr5 hr6 hbd
                generalize strOf (T.getD y []) = q at hv1 hv2
                go_wp2_with fail
                go_region_with fail
                all_goals go_wp2_with fail
                all_goals
                  go_roundw
                  case rel => exact ⟨y + 1, by omega, by go_num, HBD⟩
                  case measure => simp [intOf]; omega
              · obtain rfl : y = u := by omega
                have HBZ := Lib.hid (HB5.out.trans (HBR.out.mono HB5.out.size))
                have HSN := Lib.hid (scan_any a1 m c1 (Frm.frs T) wr (hT.out.below HBZ.out) (HR5.out.below HBR.out) (fun h => HZT.out.2.2 h) HZT.out.1 (by omega))
                go_wp2_with fail
                refine HSN.out.mono ?_
                rintro e w3 ⟨a7, c7, rfl, hl7, hb7⟩
                rw [HSA.out]
                simp only [HTL.out]
                have HB7 := Lib.hid (HBZ.out.trans (hb7.mono HBZ.out.size))
                clear hl7 hb7 HSN
                go_wp2_with fail
                go_ret
                exact ⟨rfl, HB7.out⟩

set_option maxRecDepth 100000 in
theorem lifted (os : Os) (started : os.Started) (H : Type) (enc : TypeId × Value → H) :
    ReturnsInHanded {} Tryd.checked os 5 .any (fun w args => (Rows.frameBackSpec.pre enc Tryd.prog Tryd.f5 [] false w args ∧ laidMetH Tryd.prog laid1 w) ∧ sizedMet enc Tryd.prog Tryd.f5 (OpenSpec.ofChange Rows.frameBackSpec) false w args)
      (Rows.frameBackSpec.post enc Tryd.prog Tryd.f5 false true false false) := by
  refine returnsInHanded_of_change_and (C := Tryd.checked) (X := fun w _ => laidMetH Tryd.prog laid1 w) (fun _ _ _ hh h => h.of_heap hh) own started (by kernel_rfl) Tryd.func5
    (ChangeSpec.witness_shaped (enc := enc) (C := Tryd.checked) (os := os) (X := fun w _ => laidMetH Tryd.prog laid1 w) false (World.doorLaid Tryd.prog 14 os) #[.slice none 0 0, .int .u16 0] 8 rfl (World.shaped_of_RefB (by kernel_rfl) (by kernel_rfl)) (by kernel_rfl) (by kernel_rfl) (by kernel_rfl) (door_met os _)) ?_
  intro W base args ds gs before hval0 hW _ _ hL _
  have hval : ∀ (j : Nat) t v, Tryd.f5.params[j]? = some t → args[j]? = some v → Value.okWide Tryd.prog W .any base t v := hval0
  have hW' := hW
  obtain ⟨p, q, hA0, hV, rfl, hfz, hnd⟩ := hW
  have hA : DataW.TrodAll enc Tryd.prog W 0 (fun _ => true) true Tryd.f5.params.toList args.toList ds p := hA0
  rw [Tryd.params5] at hA hval
  obtain ⟨v0, v1, d0, d1, p0, p1, rfl, rfl, rfl, h0, h1⟩ := trodAll_two hA
  obtain ⟨rfl, rfl⟩ := trodVars_none hV
  obtain ⟨a0, len0, cap0, rfl⟩ := okWide_slice Tryd.underlying34 (hval 0 34 v0 rfl rfl)
  obtain ⟨m1, rfl, rfl, rfl, w1⟩ := open_int Tryd.underlying37 (hval 1 37 v1 rfl rfl) h1
  have lt0 : ∀ x ∈ p0, x.block < W.heap.size := by obtain ⟨m, hm⟩ := h0; exact DataW.trod_lt m _ _ _ hm
  obtain ⟨l0, x0⟩ := ins_of h0
  have c1 := bounds_u16 w1
  obtain ⟨n1, rfl⟩ := Int.eq_ofNat_of_zero_le c1.1
  clear hA0 hval0
  refine (walk a0 len0 cap0 l0 n1 W (of_laid hL) x0 (by omega)).mono fun e W' ⟨he, bel⟩ => ?_
  subst he
  exact ⟨_, rfl, _, _, _, [], _, [], hW', trodAll_mk1 (shut_bool Tryd.underlying4 _), trodAll_mk2 (Below.trod laidOut (by kernel_rfl) (of_decide_eq_true (by kernel_rfl)) h0 bel lt0) (shut_int Tryd.underlying37 w1), rfl, bel.frame _, fun h => by cases h⟩

theorem row_holds : Rows.FrameBackSaid :=
  OpenClaim.holds_of_wide 5 Tryd.f5 rfl rfl rfl rfl rfl rfl rfl ⟨rfl, rfl, rfl, rfl, rfl⟩ rfl rfl rfl rfl rfl (by kernel_rfl) Tryd.func5 (by kernel_rfl)
    (of_decide_eq_true (by kernel_rfl)) (by unfold Func.isWrapper; first | (rw [if_pos (by decide +kernel)]; kernel_rfl) | (rw [if_neg (by decide +kernel)]; exact ⟨rfl, rfl⟩))
    (fun os started H enc _ => lifted os started H enc)
end FrameBack

theorem frameBack_card : Rows.FrameBackCardSaid :=
  Claim7.holds_tied_plain_at .later [] [.data] true (true, "ca6bb69d1a04dc826fde12ed1e7bb01ca13dd0c1cfea4e1e851075a0836fe676") false
    FrameBack.row_holds (fun _ h => by cases h) (by kernel_rfl) (fun _ h => by cases h) frameBack_row_tie rfl ⟨rfl, rfl⟩ (by kernel_rfl) rfl
    (fun f fn hf hfn => by
      obtain rfl : f = 5 := Option.some.inj ((show Tryd.prog.funcNamed "trug/truglaw10.FrameBack" = some 5 by kernel_rfl).symm.trans hf) |>.symm
      obtain rfl : fn = Tryd.f5 := (Option.some.inj (Tryd.func5.symm.trans hfn)).symm
      exact ⟨by kernel_rfl, fun j t ht => by
        rw [Tryd.params5] at ht
        have hm : t ∈ [34, 37] := by simpa using Array.mem_of_getElem? ht
        have hall : ([34, 37].all fun u => !Tryd.prog.wantsStandIn u) = true := by kernel_rfl
        exact (show Tryd.prog.wantsStandIn t = false by simpa using List.all_eq_true.1 hall t hm)⟩)
    (by kernel_rfl)
#print axioms frameBack_card
end Go.Proofs.YtphljhbeahkkaaaDoor
