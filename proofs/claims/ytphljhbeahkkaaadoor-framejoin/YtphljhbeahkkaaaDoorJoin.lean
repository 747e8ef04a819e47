/- FrameJoin is proved: behind bytes that are all frames what stands behind is scanned as by itself; the table of four bits is tied to the program's text. No other condition. -/
import Derived.Test.YtphljhbeahkkaaaDoorTk
namespace Go.Proofs.YtphljhbeahkkaaaDoor
namespace FrameJoin
open Go.ChangeShapes Go.WideShapes Go.ChangeAt Go.RowKit

set_option maxHeartbeats 400000 in
theorem core_big (a : Option Addr) (len cap : Nat) (a1 : Option Addr) (len1 cap1 : Nat) (w : World) (hl : len1 ≤ 9223372036854775807) (hb : 3000 < len1)
    (HA : Hid (Calls Tryd.prog 9 #[] w fun e w' => e = .returned (.bool true) ∧ Below w.heap.size w w')) :
    Calls Tryd.prog 8 #[.slice a len cap, .slice a1 len1 cap1] w fun e w' => e = .returned (.bool true) ∧ Below w.heap.size w w' := by
  go_enter Tryd.func8, Tryd.ntmps8
  go_wp2_with fail
  refine HA.out.mono ?_
  rintro e w1 ⟨rfl, hB⟩
  have HB := Lib.hid hB
  clear hB HA
  go_wp2_with fail
  go_ret
  exact ⟨rfl, HB.out⟩

set_option maxHeartbeats 2000000 in
set_option maxRecDepth 100000 in
theorem core (a : Option Addr) (len cap : Nat) (ls : List (List Nat)) (ar : Option Addr) (r capr : Nat) (lr : List Nat) (w : World) (hmax : len ≤ 9223372036854775807) (hr : r ≤ 3000) (hT : Hid (Tab w)) (hX : Hid (Ins w a len ls)) (hY : Hid (In w ar r capr lr))
    (HA : Hid (Calls Tryd.prog 9 #[] w fun e w' => e = .returned (.bool true) ∧ Below w.heap.size w w')) :
    Calls Tryd.prog 8 #[.slice a len cap, .slice ar r capr] w fun e w' => e = .returned (.bool true) ∧ Below w.heap.size w w' := by
  have HSM := Lib.hid (hX.out.small)
  have HLN := Lib.hid (hX.out.size)
  go_enter Tryd.func8, Tryd.ntmps8
  go_wp2_with fail
  refine HA.out.mono ?_
  rintro e w1 ⟨rfl, hB⟩
  have HB1 := Lib.hid hB
  clear hB HA
  go_wp2_with fail
  go_loopw [5, 6, 7] (fun o nv i wr => ∃ (k m n c1 : Nat) (a1 : Option Addr), k ≤ len ∧ k ≤ 20 ∧ m ≤ 314 * k ∧ n ≤ k ∧ o = .slice a1 m c1 ∧ nv = .int .i64 (n : Int) ∧ i = .int .i64 (k : Int) ∧ Hid (n = (took ls k).length) ∧ Hid (Own wr w.heap.size a1 m c1 (Frm.frs (took ls k))) ∧ Hid (Below w.heap.size w wr)) (fun _ _ i _ => len - (intOf i).toNat)
  case atStart => exact ⟨0, 0, 0, 0, none, by omega, by omega, by omega, by omega, rfl, rfl, rfl, Lib.hid (by simp [took_zero]), Lib.hid (by rw [took_zero]; exact own_nil _ _), HB1⟩
  case round =>
    obtain ⟨k, m, n, c1, a1, hk, hk2, hm, hn, rfl, rfl, rfl, HN, HO, HB⟩ := hrel
    by_cases hkl : k < len ∧ k < 20
    · obtain ⟨hkl, hk20⟩ := hkl
      obtain ⟨b, off, rfl, hcs⟩ := (hX.out.below HB.out).cells.resolve_left (by omega)
      obtain ⟨ai, li, ci, hc, hin⟩ := hcs k hkl
      have HIN := Lib.hid hin
      have hlsz := hin.row.size
      have hlmax := hin.max
      clear hcs hin
      by_cases h3 : 300 < li
      · have HTK := Lib.hid (took_no (ls := ls) (k := k) (by rw [HLN.out]; exact hkl) (by rw [hlsz]; exact h3))
        clear hlsz
        go_wp2_with fail
        go_roundw
        case rel => exact ⟨k + 1, m, n, c1, a1, by omega, by omega, by omega, by omega, rfl, rfl, by go_num, Lib.hid (by rw [HTK.out]; exact HN.out), Lib.hid (by rw [HTK.out]; exact HO.out), HB⟩
        case measure => simp [intOf]; omega
      · have HTK := Lib.hid (took_yes (ls := ls) (k := k) (by rw [HLN.out]; exact hkl) (by rw [hlsz]; omega))
        have hF1 := Frm.fr_len (ls.getD k [])
        have hF2 := Vint.enc_ten (n := (ls.getD k []).length) (by omega)
        rw [hlsz] at hF1 hF2
        have HW := Lib.hid (wrap_any ai li ci (ls.getD k []) wr (hT.out.below HB.out) HIN.out.row HIN.out.nil (by omega))
        have HSF := Lib.hid (Frm.fr_lt (l := ls.getD k []) HIN.out.row.small)
        have HFS := Lib.hid (Frm.frs_snoc (took ls k) (ls.getD k []))
        have hF3 : (Frm.fr (ls.getD k [])).length ≤ 314 := by omega
        clear hlsz hF1 hF2
        generalize ls.getD k [] = x at *
        go_wp2_with fail
        refine HW.out.mono ?_
        rintro e w2 ⟨a2, c2, rfl, ho2, hb2⟩
        clear HW
        generalize Frm.fr x = fx at *
        have HR2 := Lib.hid (ho2.row HSF.out)
        have HZ2 := Lib.hid ho2.cap.2.2
        have HO2 := Lib.hid (HO.out.below hb2)
        have HB2 := Lib.hid (HB.out.trans (hb2.mono HB.out.size))
        clear ho2 hb2
        generalize fx.length = F at *
        go_wp2_with (at_builtin; (refine wpList_append_own_row w2 rfl _ _ rfl w.heap.size a1 m c1 (Frm.frs (took ls k)) rfl HO2.out a2 F c2 fx rfl HR2.out HZ2.out (by omega) HB2.out.size ?_
                                  intro a3 c3 w3 ho3 hk3 _
                                  have HO3 := Lib.hid ho3
                                  have HK3 := Lib.hid hk3
                                  clear ho3 hk3))
        go_roundw
        case rel => exact ⟨k + 1, m + F, n + 1, c3, a3, by omega, by omega, by omega, by omega, rfl, by go_num, by go_num, Lib.hid (by rw [HTK.out, List.length_append, HN.out]; rfl), Lib.hid (by rw [HTK.out, HFS.out]; exact HO3.out), Lib.hid (HB2.out.trans (HK3.out.below HB2.out.size (fun i ⟨ad, h1, h2⟩ => by have := (HO2.out.lt ad h1).1; omega)))⟩
        case measure => simp [intOf]; omega
    · have HMEM : Hid (∀ l ∈ took ls k, l.length ≤ 300 ∧ ∀ c ∈ l, c < 256) := Lib.hid (fun l hl => ⟨(took_mem hl).2, HSM.out l (took_mem hl).1⟩)
      have HST : Hid (Frm.scan (Frm.frs (took ls k) ++ lr) = (took ls k ++ (Frm.scan lr).1, m + (Frm.scan lr).2)) := Lib.hid (by
        rw [Frm.scan_frs _ _ (fun l hl => by have := (HMEM.out l hl).1; omega), HO.out.len])
      have HLE := Lib.hid (Frm.scan_le lr)
      have HRZ := Lib.hid hY.out.row.size
      have HTL : Hid (n = (took ls k).length) := HN
      generalize took ls k = T at *
      have HSMT := Lib.hid (Frm.frs_small (fun l hl => (HMEM.out l hl).2))
      have HRT := Lib.hid (HO.out.row HSMT.out)
      have HZT := Lib.hid HO.out.cap.2.2
      have hdec : (decide (k < len) && decide (k < 20)) = false := by simp; omega
      by_cases hkl1 : k < len
      all_goals
        first
          | (have hkl2 : ¬ k < 20 := by omega)
          | skip
        go_wp2_with (at_builtin; first
          | (refine wpList_append_own_row wr rfl _ _ rfl w.heap.size none 0 0 [] rfl (own_nil _ _) a1 m c1 (Frm.frs T) rfl HRT.out HZT.out (by omega) HB.out.size ?_
             intro a3 c3 w3 ho3 hk3 _
             simp only [Nat.zero_add, List.nil_append] at ho3 ⊢
             have HO3 := Lib.hid ho3
             have HB3 := Lib.hid (HB.out.trans (hk3.below HB.out.size (fun i ⟨ad, h1, h2⟩ => by cases h1)))
             clear ho3 hk3)
          | (refine wpList_append_own_row w3 rfl _ _ rfl w.heap.size a3 m c3 (Frm.frs T) rfl HO3.out ar r capr lr rfl (hY.out.below HB3.out).row hY.out.nil (by omega) HB3.out.size ?_
             intro a4 c4 w4 ho4 hk4 _
             have HO4 := Lib.hid ho4
             have HB4 := Lib.hid (HB3.out.trans (hk4.below HB3.out.size (fun i ⟨ad, h1, h2⟩ => by have := (HO3.out.lt ad h1).1; omega)))
             clear ho4 hk4))
        have HR4 := Lib.hid (HO4.out.row (fun c hc => by
          rcases List.mem_append.1 hc with h | h
          · exact HSMT.out c h
          · exact hY.out.row.small c h))
        have HC4 := Lib.hid HO4.out.cap
        refine (scan_any a4 (m + r) c4 (Frm.frs T ++ lr) w4 (hT.out.below HB4.out) HR4.out HC4.out.2.2 HC4.out.1 (by omega)).mono ?_
        rintro e w5 ⟨a5, c5, rfl, hl5, hb5⟩
        rw [HST.out] at hl5 ⊢
        have HL5 := Lib.hid hl5
        have HB5 := Lib.hid (HB4.out.trans (hb5.mono HB4.out.size))
        clear hl5 hb5 HR4 HC4 HO4 HB4 HO3 HB3
        have HY5 := Lib.hid (hY.out.below HB5.out)
        have HS5 := Lib.hid (scan_any ar r capr lr w5 (hT.out.below HB5.out) HY5.out.row HY5.out.nil HY5.out.le (by omega))
        have HXL : Hid ((T ++ (Frm.scan lr).1).length = n + (Frm.scan lr).1.length) := Lib.hid (by rw [List.length_append, HTL.out])
        generalize hXe : (T ++ (Frm.scan lr).1).length = X at HL5 HXL ⊢
        clear hXe
        go_wp2_with fail
        refine HS5.out.mono ?_
        rintro e w6 ⟨a6, c6, rfl, hl6, hb6⟩
        have HL6 := Lib.hid hl6
        have HL56 := Lib.hid (HL5.out.below hb6)
        have HB6 := Lib.hid (HB5.out.trans (hb6.mono HB5.out.size))
        have hln : (Frm.scan lr).1.length ≤ 3000 := by have := HLE.out; have := HRZ.out; omega
        have hK : (Frm.scan lr).2 ≤ 3000 := by have := HLE.out; have := HRZ.out; omega
        clear hl6 hb6 HS5 HY5 HL5 HB5 HLE HST
        generalize (Frm.scan lr).2 = K at *
        generalize (Frm.scan lr).1 = L at *
        generalize L.length = y at *
        have hX1 : ((X : Int) != (n : Int) + (y : Int)) = false := by have := HXL.out; simp; omega
        have hX2 : (((m + K : Nat) : Int) != (m : Int) + (K : Int)) = false := by simp
        go_wp2_with fail
        clear hX1 hX2
        go_loopw [81] (fun i wr => ∃ k : Nat, k ≤ y ∧ i = .int .i64 (k : Int) ∧ Hid (Below w6.heap.size w6 wr)) (fun i _ => y - (intOf i).toNat)
        case atStart => exact ⟨0, by omega, rfl, Lib.hid (Below.refl _ _)⟩
        case round =>
          obtain ⟨z, hz, rfl, HBR⟩ := hrel
          by_cases hzy : z < y
          · have hbd : Below w6.heap.size w6 wr.drew := HBR.out.trans (Below.refl _ _).drew
            obtain ⟨g5, v5, rfl, hc5, x5, n5, d5, rfl, hr5, _⟩ := (HL56.out.below hbd).cell (i := n + z) (by have := HXL.out; omega)
            obtain ⟨g6, v6, rfl, hc6, x6, n6, d6, rfl, hr6, _⟩ := (HL6.out.below hbd).cell hzy
            rw [getD_behind T L n z HTL.out] at hr5
            have hv1 := conv_any (cap := d5) hr5
            have hv2 := conv_any (cap := d6) hr6
            have hxb : n + z < X := by have := HXL.out; omega
            have i1 : IntKind.i64.wrap ((n : Int) + (z : Int)) = ((n + z : Nat) : Int) := by rw [IntKind.wrap_i64]; omega
            have HBD := Lib.hid hbd
            clear hr5 hr6 hbd
            generalize strOf (L.getD z []) = q at hv1 hv2
            generalize n + z = j at hc5 i1 hxb
            go_wp2_with fail
            go_region_with fail
            all_goals go_wp2_with fail
            all_goals
              go_roundw
              case rel => exact ⟨z + 1, by omega, by go_num, HBD⟩
              case measure => simp [intOf]; omega
          · obtain rfl : z = y := by omega
            go_wp2_with fail
            go_ret
            exact ⟨rfl, HB6.out.trans (HBR.out.mono HB6.out.size)⟩

theorem walk (a : Option Addr) (len cap : Nat) (ls : List (List Nat)) (ar : Option Addr) (r capr : Nat) (lr : List Nat) (w : World) (hT : Tab w) (hX : Ins w a len ls) (hY : In w ar r capr lr) :
    Calls Tryd.prog 8 #[.slice a len cap, .slice ar r capr] w fun e w' => e = .returned (.bool true) ∧ Below w.heap.size w w' := by
  have HA := Lib.hid (alive_any w hT)
  by_cases hb : 3000 < r
  · exact core_big a len cap ar r capr w hY.max hb HA
  · exact core a len cap ls ar r capr lr w hX.max (by omega) (Lib.hid hT) (Lib.hid hX) (Lib.hid hY) HA

set_option maxRecDepth 100000 in
theorem lifted (os : Os) (started : os.Started) (H : Type) (enc : TypeId × Value → H) :
    ReturnsInHanded {} Tryd.checked os 8 .any (fun w args => (Rows.frameJoinSpec.pre enc Tryd.prog Tryd.f8 [] false w args ∧ laidMetH Tryd.prog laid1 w) ∧ sizedMet enc Tryd.prog Tryd.f8 (OpenSpec.ofChange Rows.frameJoinSpec) false w args)
      (Rows.frameJoinSpec.post enc Tryd.prog Tryd.f8 false true false false) := by
  refine returnsInHanded_of_change_and (C := Tryd.checked) (X := fun w _ => laidMetH Tryd.prog laid1 w) (fun _ _ _ hh h => h.of_heap hh) own started (by kernel_rfl) Tryd.func8
    (ChangeSpec.witness_shaped (enc := enc) (C := Tryd.checked) (os := os) (X := fun w _ => laidMetH Tryd.prog laid1 w) false (World.doorLaid Tryd.prog 14 os) #[.slice none 0 0, .slice none 0 0] 8 rfl (World.shaped_of_RefB (by kernel_rfl) (by kernel_rfl)) (by kernel_rfl) (by kernel_rfl) (by kernel_rfl) (door_met os _)) ?_
  intro W base args ds gs before hval0 hW _ _ hL _
  have hval : ∀ (j : Nat) t v, Tryd.f8.params[j]? = some t → args[j]? = some v → Value.okWide Tryd.prog W .any base t v := hval0
  have hW' := hW
  obtain ⟨p, q, hA0, hV, rfl, hfz, hnd⟩ := hW
  have hA : DataW.TrodAll enc Tryd.prog W 0 (fun _ => true) true Tryd.f8.params.toList args.toList ds p := hA0
  rw [Tryd.params8] at hA hval
  obtain ⟨v0, v1, d0, d1, p0, p1, rfl, rfl, rfl, h0, h1⟩ := trodAll_two hA
  obtain ⟨rfl, rfl⟩ := trodVars_none hV
  obtain ⟨a0, len0, cap0, rfl⟩ := okWide_slice Tryd.underlying34 (hval 0 34 v0 rfl rfl)
  obtain ⟨a1, len1, cap1, rfl⟩ := okWide_slice Tryd.underlying22 (hval 1 22 v1 rfl rfl)
  have lt0 : ∀ x ∈ p0, x.block < W.heap.size := by obtain ⟨m, hm⟩ := h0; exact DataW.trod_lt m _ _ _ hm
  obtain ⟨l0, x0⟩ := ins_of h0
  have lt1 : ∀ x ∈ p1, x.block < W.heap.size := by obtain ⟨m, hm⟩ := h1; exact DataW.trod_lt m _ _ _ hm
  obtain ⟨l1, x1⟩ := in_of h1
  clear hA0 hval0
  refine (walk a0 len0 cap0 l0 a1 len1 cap1 l1 W (of_laid hL) x0 x1).mono fun e W' ⟨he, bel⟩ => ?_
  subst he
  exact ⟨_, rfl, _, _, _, [], _, [], hW', trodAll_mk1 (shut_bool Tryd.underlying4 _), trodAll_mk2 (Below.trod laidOut (by kernel_rfl) (of_decide_eq_true (by kernel_rfl)) h0 bel lt0) (Below.trod laidOut (by kernel_rfl) (of_decide_eq_true (by kernel_rfl)) h1 bel lt1), rfl, bel.frame _, fun h => by cases h⟩

theorem row_holds : Rows.FrameJoinSaid :=
  OpenClaim.holds_of_wide 8 Tryd.f8 rfl rfl rfl rfl rfl rfl rfl ⟨rfl, rfl, rfl, rfl, rfl⟩ rfl rfl rfl rfl rfl (by kernel_rfl) Tryd.func8 (by kernel_rfl)
    (of_decide_eq_true (by kernel_rfl)) (by unfold Func.isWrapper; first | (rw [if_pos (by decide +kernel)]; kernel_rfl) | (rw [if_neg (by decide +kernel)]; exact ⟨rfl, rfl⟩))
    (fun os started H enc _ => lifted os started H enc)
end FrameJoin

theorem frameJoin_card : Rows.FrameJoinCardSaid :=
  Claim7.holds_tied_plain_at .later [] [.data] true (true, "ca6bb69d1a04dc826fde12ed1e7bb01ca13dd0c1cfea4e1e851075a0836fe676") false
    FrameJoin.row_holds (fun _ h => by cases h) (by kernel_rfl) (fun _ h => by cases h) frameJoin_row_tie rfl ⟨rfl, rfl⟩ (by kernel_rfl) rfl
    (fun f fn hf hfn => by
      obtain rfl : f = 8 := Option.some.inj ((show Tryd.prog.funcNamed "trug/truglaw10.FrameJoin" = some 8 by kernel_rfl).symm.trans hf) |>.symm
      obtain rfl : fn = Tryd.f8 := (Option.some.inj (Tryd.func8.symm.trans hfn)).symm
      exact ⟨by kernel_rfl, fun j t ht => by
        rw [Tryd.params8] at ht
        have hm : t ∈ [34, 22] := by simpa using Array.mem_of_getElem? ht
        have hall : ([34, 22].all fun u => !Tryd.prog.wantsStandIn u) = true := by kernel_rfl
        exact (show Tryd.prog.wantsStandIn t = false by simpa using List.all_eq_true.1 hall t hm)⟩)
    (by kernel_rfl)
#print axioms frameJoin_card
end Go.Proofs.YtphljhbeahkkaaaDoor
