/- FrameTurned is proved: of a frame in which one byte is turned, but for those of its size, First and Scan take nothing; the table of four bits is tied to the program's text. No other condition. -/
import Derived.Test.YtphljhbeahkkaaaDoorLw
namespace Go.Proofs.YtphljhbeahkkaaaDoor
namespace FrameTurned
open Go.ChangeShapes Go.WideShapes Go.ChangeAt Go.RowKit

theorem xor_lt8 {a b : Nat} (ha : a < 256) (hb : b < 256) : a ^^^ b < 256 := Nat.xor_lt_two_pow (n := 8) (by omega) (by omega)

/-- One byte of a text, turned. -/
theorem sums_unlike (l : List Nat) (i t : Nat) (hs : ∀ c ∈ l, c < 256) (hi : i < l.length) (ht : t < 256) (h0 : t ≠ 0) : Crc.next 0 (l.set i (l.getD i 0 ^^^ t)) ≠ Crc.next 0 l := by
  intro h
  have hp : l[i] < 256 := hs _ (List.getElem_mem hi)
  rw [getD_at hi] at h
  have e1 : l = l.take i ++ l[i] :: l.drop (i + 1) := by
    rw [← List.drop_eq_getElem_cons hi, List.take_append_drop]
  have e2 : l.set i (l[i] ^^^ t) = l.take i ++ (l[i] ^^^ t) :: l.drop (i + 1) := by
    rw [List.set_eq_take_append_cons_drop, if_pos hi]
  rw [e2] at h
  have e3 : Crc.next 0 l = Crc.next 0 (l.take i ++ l[i] :: l.drop (i + 1)) := congrArg _ e1
  rw [e3] at h
  have := Crc.turned (l.take i) (l.drop (i + 1)) (l[i] ^^^ t) l[i] (xor_lt8 hp ht) hp (fun c hc => hs c (List.mem_of_mem_take hc)) (fun c hc => hs c (List.mem_of_mem_drop hc)) h
  have e4 : l[i] ^^^ t = l[i] ^^^ 0 := by rw [this, Nat.xor_zero]
  exact h0 (Crc.cancel_left e4)

/-- A store into a row of the call's own. -/
theorem row_set {w : World} {B g n cap i q : Nat} {l : List Nat} (h : w.ownsRow B 5 1 (.slice (some ⟨g, 0, none⟩) n cap) n (cellsOf l)) (hs : ∀ c ∈ l, c < 256) (hi : i < n) (hq : q < 256) :
    Row (w.setCell ⟨g, i, none⟩ (.int .u8 (q : Int))) (some ⟨g, 0, none⟩) n (l.set i q) := by
  obtain ⟨a, cap', hv, hR, _⟩ := row_of_owns h hs
  simp only [Value.slice.injEq] at hv
  obtain ⟨rfl, _, rfl⟩ := hv
  obtain ⟨b, off, ha, hc⟩ := hR.cells.resolve_left (by omega)
  simp only [Option.some.injEq, Addr.mk.injEq, and_true] at ha
  obtain ⟨rfl, rfl⟩ := ha
  have hl := hR.size
  refine ⟨by simp [hl], fun c hc => ?_, .inr ⟨g, 0, rfl, fun j hj => ?_⟩⟩
  · rcases List.mem_or_eq_of_mem_set hc with h | h
    · exact hs c h
    · omega
  · simp only [Nat.zero_add] at hc ⊢
    by_cases hji : j = i
    · subst hji
      rw [World.cell?_setCell_same _ _ _ (hc j hj), getD_at (by rw [List.length_set]; omega)]
      simp
    · rw [World.cell?_setCell_other _ _ _ _ (by intro e; exact hji (by simpa using e.symm)), hc j hj, getD_at (by omega), getD_at (by rw [List.length_set]; omega), List.getElem_set_ne (by omega)]

theorem own_cell {w : World} {B g n cap i p : Nat} {l : List Nat} (h : w.ownsRow B 5 1 (.slice (some ⟨g, 0, none⟩) n cap) n (cellsOf l)) (hs : ∀ c ∈ l, c < 256) (hi : i < n) (hp : l.getD i 0 = p) :
    w.cell? ⟨g, i, none⟩ = some (.int .u8 (p : Int)) ∧ w.frozen? ⟨g, i, none⟩ = false := by
  refine ⟨?_, ?_⟩
  · obtain ⟨a, cap', hv, hR, _⟩ := row_of_owns h hs
    simp only [Value.slice.injEq] at hv
    obtain ⟨rfl, _, rfl⟩ := hv
    obtain ⟨b, off, ha, hc⟩ := hR.cells.resolve_left (by omega)
    simp only [Option.some.injEq, Addr.mk.injEq, and_true] at ha
    obtain ⟨rfl, rfl⟩ := ha
    have := hc i hi
    rw [hp] at this
    simpa using this
  · rcases h.2 with ⟨hv, _⟩ | ⟨g', cap', cur, hv, _, hg, _⟩
    · simp at hv
    · simp only [Value.slice.injEq, Option.some.injEq, Addr.mk.injEq, and_true] at hv
      obtain ⟨rfl, _⟩ := hv
      exact frozen_of_row w g i cur 5 hg

/-- A frame with one byte turned behind its number. -/
theorem first_turned {l : List Nat} {i t : Nat} (hs : ∀ c ∈ l, c < 256) (hl : l.length ≤ 4096) (hi : (Vint.enc l.length).length ≤ i) (hF : i < (Frm.fr l).length) (ht : t < 256) (h0 : t ≠ 0) :
    Frm.first ((Frm.fr l).set i ((Frm.fr l).getD i 0 ^^^ t)) = ([], 0, 6) := by
  have hbl := Frm.body_len l
  have hfl := Frm.fr_len l
  have hG : ∀ x, Vint.G 0 0 ((Frm.fr l).set i x) = (l.length, (Vint.enc l.length).length, 0) := by
    intro x
    have e0 : Frm.fr l = Vint.enc l.length ++ (l ++ Frm.sumB (Frm.bodyB l)) := by simp [Frm.fr, Frm.bodyB]
    rw [e0, List.set_append_right _ _ hi]
    exact Vint.G_put (by omega) _
  have hbs := Frm.body_lt hs
  refine Frm.first_sum (hG _) hl (by rw [List.length_set]; omega) ?_
  rw [← hbl]
  by_cases hib : i < (Frm.bodyB l).length
  · have e1 : (Frm.fr l).getD i 0 = (Frm.bodyB l).getD i 0 := by
      unfold Frm.fr
      rw [List.getD_eq_getElem?_getD, List.getElem?_append_left hib, ← List.getD_eq_getElem?_getD]
    have e2 : ∀ x, (Frm.fr l).set i x = (Frm.bodyB l).set i x ++ Frm.sumB (Frm.bodyB l) := fun x => by
      unfold Frm.fr
      rw [List.set_append_left _ _ hib]
    rw [e2, List.take_left' (by simp), List.drop_left' (by simp), e1]
    intro h
    have h2 : Frm.sumB (Frm.bodyB l) = Frm.sumB ((Frm.bodyB l).set i ((Frm.bodyB l).getD i 0 ^^^ t)) := h
    have hx : (Frm.bodyB l).getD i 0 ^^^ t < 256 := xor_lt8 (by rw [getD_at hib]; exact hbs _ (List.getElem_mem hib)) ht
    have h3 := Frm.le4_inj (Frm.next_lt hbs) (Frm.next_lt (l := (Frm.bodyB l).set i ((Frm.bodyB l).getD i 0 ^^^ t)) (fun c hc => by
      rcases List.mem_or_eq_of_mem_set hc with h | h
      · exact hbs c h
      · omega)) h2
    exact sums_unlike (Frm.bodyB l) i t hbs hib ht h0 h3.symm
  · have hj : i - (Frm.bodyB l).length < (Frm.sumB (Frm.bodyB l)).length := by rw [Frm.sumB_len]; omega
    have e1 : (Frm.fr l).getD i 0 = (Frm.sumB (Frm.bodyB l)).getD (i - (Frm.bodyB l).length) 0 := by
      unfold Frm.fr
      rw [List.getD_eq_getElem?_getD, List.getElem?_append_right (by omega), ← List.getD_eq_getElem?_getD]
    have e2 : ∀ x, (Frm.fr l).set i x = Frm.bodyB l ++ (Frm.sumB (Frm.bodyB l)).set (i - (Frm.bodyB l).length) x := fun x => by
      unfold Frm.fr
      rw [List.set_append_right _ _ (by omega)]
    rw [e2, List.take_left, List.drop_left, List.take_of_length_le (by rw [List.length_set, Frm.sumB_len]; omega), e1]
    generalize i - (Frm.bodyB l).length = j at hj
    generalize Frm.sumB (Frm.bodyB l) = s at hj
    intro h
    have h2 : (s.set j (s.getD j 0 ^^^ t)).getD j 0 = s.getD j 0 := by rw [h]
    rw [getD_at (by simpa using hj), List.getElem_set_self, getD_at hj] at h2
    exact h0 (Crc.cancel_left (m := s[j]) (by rw [h2, Nat.xor_zero]))

set_option maxHeartbeats 400000 in
theorem core_big (a : Option Addr) (len cap n t : Nat) (w : World) (hl : len ≤ 9223372036854775807) (hb : 300 < len)
    (HA : Hid (Calls Tryd.prog 9 #[] w fun e w' => e = .returned (.bool true) ∧ Below w.heap.size w w')) :
    Calls Tryd.prog 6 #[.slice a len cap, .int .u16 (n : Int), .int .u8 (t : Int)] w fun e w' => e = .returned (.bool true) ∧ Below w.heap.size w w' := by
  go_enter Tryd.func6, Tryd.ntmps6
  go_wp2_with fail
  refine HA.out.mono ?_
  rintro e w1 ⟨rfl, hB⟩
  have HB := Lib.hid hB
  clear hB HA
  go_wp2_with fail
  go_ret
  exact ⟨rfl, HB.out⟩

set_option maxHeartbeats 400000 in
theorem core_nought (a : Option Addr) (len cap n t : Nat) (w : World) (hl : len ≤ 300) (ht : ((t : Int) == 0) = true)
    (HA : Hid (Calls Tryd.prog 9 #[] w fun e w' => e = .returned (.bool true) ∧ Below w.heap.size w w')) :
    Calls Tryd.prog 6 #[.slice a len cap, .int .u16 (n : Int), .int .u8 (t : Int)] w fun e w' => e = .returned (.bool true) ∧ Below w.heap.size w w' := by
  go_enter Tryd.func6, Tryd.ntmps6
  go_wp2_with fail
  refine HA.out.mono ?_
  rintro e w1 ⟨rfl, hB⟩
  have HB := Lib.hid hB
  clear hB HA
  go_wp2_with fail
  go_ret
  exact ⟨rfl, HB.out⟩

set_option maxHeartbeats 1000000 in
set_option maxRecDepth 100000 in
theorem core (a : Option Addr) (len cap n t F L j p q : Nat) (l : List Nat) (w : World) (hlen : len ≤ 300) (hn : n < 65536) (_ht : t < 256) (ht0 : ((t : Int) == 0) = false) (hT : Hid (Tab w)) (hX : Hid (In w a len cap l)) (hF : Hid ((Frm.fr l).length = F)) (hF1 : F ≤ 2000) (hL : Hid ((Vint.enc len).length = L)) (hLF : L + 4 ≤ F)
    (hj : (n : Int) % ((F : Int) - (L : Int)) = (j : Int)) (hjF : L + j < F) (hp : Hid ((Frm.fr l).getD (L + j) 0 = p)) (_hq : Hid (q = p ^^^ t)) (hq2 : q < 256) (f1 : bits .xor .u8 (p : Int) (t : Int) = (q : Int)) (HFT : Hid (Frm.first ((Frm.fr l).set (L + j) q) = ([], 0, 6)))
    (HA : Hid (Calls Tryd.prog 9 #[] w fun e w' => e = .returned (.bool true) ∧ Below w.heap.size w w')) :
    Calls Tryd.prog 6 #[.slice a len cap, .int .u16 (n : Int), .int .u8 (t : Int)] w fun e w' => e = .returned (.bool true) ∧ Below w.heap.size w w' := by
  have hFz : ((F : Int) - (L : Int) == 0) = false := by simp; omega
  have HSC : Hid (Frm.scan ((Frm.fr l).set (L + j) q) = ([], 0)) := Lib.hid (Frm.scan_stop (by rw [HFT.out]; decide))
  go_enter Tryd.func6, Tryd.ntmps6
  go_wp2_with fail
  refine HA.out.mono ?_
  rintro e w1 ⟨rfl, hB⟩
  have HB := Lib.hid hB
  have HX1 := Lib.hid (hX.out.below hB)
  have HT1 := Lib.hid (hT.out.below hB)
  have HW := Lib.hid (wrap_any a len cap l w1 HT1.out HX1.out.row HX1.out.nil (by omega))
  clear hB HA hX
  go_wp2_with fail
  refine HW.out.mono ?_
  rintro e w2 ⟨a2, c2, rfl, ho2, hb2⟩
  rw [hF.out] at ho2 ⊢
  obtain ⟨g, rfl⟩ := ho2.form (by omega)
  have HO2 := Lib.hid (ho2.mono (B' := w.heap.size) HB.out.size)
  have HB2 := Lib.hid (HB.out.trans (hb2.mono HB.out.size))
  have HT2 := Lib.hid (HT1.out.below hb2)
  have HP := Lib.hid (rput_any len w2 (by omega))
  have hc2 := ho2.cap.1
  have HSM := Lib.hid (Frm.fr_lt HX1.out.row.small)
  clear ho2 hb2 HW HB
  go_wp2_with fail
  refine HP.out.mono ?_
  rintro e w3 ⟨g3, c3, rfl, ho3, hb3⟩
  rw [hL.out]
  have HO3 := Lib.hid (HO2.out.below hb3)
  obtain ⟨hc, hf⟩ := own_cell HO3.out HSM.out hjF hp.out
  have HB3 := Lib.hid (HB2.out.trans (hb3.mono HB2.out.size))
  have HT3 := Lib.hid (HT2.out.below hb3)
  clear ho3 hb3 HB2 HT2 HT1 HX1 HP HO2
  go_wp2_with fail
  have hB4 : Below w.heap.size w (w3.setCell ⟨g, L + j, none⟩ (.int .u8 (q : Int))) := HB3.out.setCell (show w.heap.size ≤ (⟨g, L + j, none⟩ : Addr).block from (HO3.out.lt ⟨g, 0, none⟩ rfl).1) _
  have hR4 := row_set HO3.out HSM.out hjF hq2
  have HT4 := Lib.hid (hT.out.below hB4)
  have HR4 := Lib.hid hR4
  have HB4 := Lib.hid hB4
  clear hB4 hR4 hc hf HO3 HB3 HT3
  generalize w3.setCell ⟨g, L + j, none⟩ (.int .u8 (q : Int)) = w4 at *
  refine (first_any (some ⟨g, 0, none⟩) F c2 _ w4 HT4.out HR4.out (fun h => by cases h) hc2 (by omega)).mono ?_
  rintro e w5 ⟨a5, c5, rfl, ho5, hb5⟩
  rw [HFT.out]
  have HB5 := Lib.hid (HB4.out.trans (hb5.mono HB4.out.size))
  have HT5 := Lib.hid (HT4.out.below hb5)
  have HR5 := Lib.hid (HR4.out.below hb5)
  clear ho5 hb5 HB4 HT4 HR4
  go_wp2_with fail
  refine (scan_any (some ⟨g, 0, none⟩) F c2 _ w5 HT5.out HR5.out (fun h => by cases h) hc2 (by omega)).mono ?_
  rintro e w6 ⟨a6, c6, rfl, ho6, hb6⟩
  rw [HSC.out]
  have HB6 := Lib.hid (HB5.out.trans (hb6.mono HB5.out.size))
  clear ho6 hb6
  go_wp2_with fail
  go_ret
  exact ⟨rfl, HB6.out⟩

theorem walk (a : Option Addr) (len cap : Nat) (l : List Nat) (n t : Nat) (w : World) (hT : Tab w) (hX : In w a len cap l) (hn : n < 65536) (ht : t < 256) :
    Calls Tryd.prog 6 #[.slice a len cap, .int .u16 (n : Int), .int .u8 (t : Int)] w fun e w' => e = .returned (.bool true) ∧ Below w.heap.size w w' := by
  have HA := Lib.hid (alive_any w hT)
  by_cases hb : 300 < len
  · exact core_big a len cap n t w hX.max hb HA
  by_cases h0 : t = 0
  · exact core_nought a len cap n t w (by omega) (by simp; omega) HA
  have h1 := Frm.fr_pos l
  have h2 := Frm.fr_len l
  have h4 := hX.row.size
  have h3 := Vint.enc_ten (n := len) (by omega)
  rw [h4] at h2
  have hm : n % ((Frm.fr l).length - (Vint.enc len).length) < (Frm.fr l).length - (Vint.enc len).length := Nat.mod_lt _ (by omega)
  have hin : (Vint.enc len).length + n % ((Frm.fr l).length - (Vint.enc len).length) < (Frm.fr l).length := by omega
  have hp : (Frm.fr l).getD ((Vint.enc len).length + n % ((Frm.fr l).length - (Vint.enc len).length)) 0 < 256 := by rw [getD_at hin]; exact Frm.fr_lt hX.row.small _ (List.getElem_mem hin)
  exact core a len cap n t (Frm.fr l).length (Vint.enc len).length (n % ((Frm.fr l).length - (Vint.enc len).length)) _ _ l w (by omega) hn ht (by simp; omega) (Lib.hid hT) (Lib.hid hX) (Lib.hid rfl) (by omega) (Lib.hid rfl) (by omega)
    (by rw [← Int.natCast_sub (by omega)]; simp) hin (Lib.hid rfl) (Lib.hid rfl) (xor_lt8 hp ht) (u8_xor_nat _ _ hp ht) (Lib.hid (first_turned hX.row.small (by omega) (by rw [h4]; omega) hin ht h0)) HA

set_option maxRecDepth 100000 in
theorem lifted (os : Os) (started : os.Started) (H : Type) (enc : TypeId × Value → H) :
    ReturnsInHanded {} Tryd.checked os 6 .any (fun w args => (Rows.frameTurnedSpec.pre enc Tryd.prog Tryd.f6 [] false w args ∧ laidMetH Tryd.prog laid1 w) ∧ sizedMet enc Tryd.prog Tryd.f6 (OpenSpec.ofChange Rows.frameTurnedSpec) false w args)
      (Rows.frameTurnedSpec.post enc Tryd.prog Tryd.f6 false true false false) := by
  refine returnsInHanded_of_change_and (C := Tryd.checked) (X := fun w _ => laidMetH Tryd.prog laid1 w) (fun _ _ _ hh h => h.of_heap hh) own started (by kernel_rfl) Tryd.func6
    (ChangeSpec.witness_shaped (enc := enc) (C := Tryd.checked) (os := os) (X := fun w _ => laidMetH Tryd.prog laid1 w) false (World.doorLaid Tryd.prog 14 os) #[.slice none 0 0, .int .u16 0, .int .u8 0] 8 rfl (World.shaped_of_RefB (by kernel_rfl) (by kernel_rfl)) (by kernel_rfl) (by kernel_rfl) (by kernel_rfl) (door_met os _)) ?_
  intro W base args ds gs before hval0 hW _ _ hL _
  have hval : ∀ (j : Nat) t v, Tryd.f6.params[j]? = some t → args[j]? = some v → Value.okWide Tryd.prog W .any base t v := hval0
  have hW' := hW
  obtain ⟨p, q, hA0, hV, rfl, hfz, hnd⟩ := hW
  have hA : DataW.TrodAll enc Tryd.prog W 0 (fun _ => true) true Tryd.f6.params.toList args.toList ds p := hA0
  rw [Tryd.params6] at hA hval
  obtain ⟨v0, v1, v2, d0, d1, d2, p0, p1, p2, rfl, rfl, rfl, h0, h1, h2⟩ := trodAll_three hA
  obtain ⟨rfl, rfl⟩ := trodVars_none hV
  obtain ⟨a0, len0, cap0, rfl⟩ := okWide_slice Tryd.underlying22 (hval 0 22 v0 rfl rfl)
  obtain ⟨m1, rfl, rfl, rfl, w1⟩ := open_int Tryd.underlying37 (hval 1 37 v1 rfl rfl) h1
  obtain ⟨m2, rfl, rfl, rfl, w2⟩ := open_int Tryd.underlying5 (hval 2 5 v2 rfl rfl) h2
  have lt0 : ∀ x ∈ p0, x.block < W.heap.size := by obtain ⟨m, hm⟩ := h0; exact DataW.trod_lt m _ _ _ hm
  obtain ⟨l0, x0⟩ := in_of h0
  have c1 := bounds_u16 w1
  obtain ⟨n1, rfl⟩ := Int.eq_ofNat_of_zero_le c1.1
  have c2 := bounds_u8 w2
  obtain ⟨n2, rfl⟩ := Int.eq_ofNat_of_zero_le c2.1
  clear hA0 hval0
  refine (walk a0 len0 cap0 l0 n1 n2 W (of_laid hL) x0 (by omega) (by omega)).mono fun e W' ⟨he, bel⟩ => ?_
  subst he
  exact ⟨_, rfl, _, _, _, [], _, [], hW', trodAll_mk1 (shut_bool Tryd.underlying4 _), trodAll_mk3 (Below.trod laidOut (by kernel_rfl) (of_decide_eq_true (by kernel_rfl)) h0 bel lt0) (shut_int Tryd.underlying37 w1) (shut_int Tryd.underlying5 w2), rfl, bel.frame _, fun h => by cases h⟩

theorem row_holds : Rows.FrameTurnedSaid :=
  OpenClaim.holds_of_wide 6 Tryd.f6 rfl rfl rfl rfl rfl rfl rfl ⟨rfl, rfl, rfl, rfl, rfl⟩ rfl rfl rfl rfl rfl (by kernel_rfl) Tryd.func6 (by kernel_rfl)
    (of_decide_eq_true (by kernel_rfl)) (by unfold Func.isWrapper; first | (rw [if_pos (by decide +kernel)]; kernel_rfl) | (rw [if_neg (by decide +kernel)]; exact ⟨rfl, rfl⟩))
    (fun os started H enc _ => lifted os started H enc)
end FrameTurned

theorem frameTurned_card : Rows.FrameTurnedCardSaid :=
  Claim7.holds_tied_plain_at .later [] [.data] true (true, "ca6bb69d1a04dc826fde12ed1e7bb01ca13dd0c1cfea4e1e851075a0836fe676") false
    FrameTurned.row_holds (fun _ h => by cases h) (by kernel_rfl) (fun _ h => by cases h) frameTurned_row_tie rfl ⟨rfl, rfl⟩ (by kernel_rfl) rfl
    (fun f fn hf hfn => by
      obtain rfl : f = 6 := Option.some.inj ((show Tryd.prog.funcNamed "trug/truglaw10.FrameTurned" = some 6 by kernel_rfl).symm.trans hf) |>.symm
      obtain rfl : fn = Tryd.f6 := (Option.some.inj (Tryd.func6.symm.trans hfn)).symm
      exact ⟨by kernel_rfl, fun j t ht => by
        rw [Tryd.params6] at ht
        have hm : t ∈ [22, 37, 5] := by simpa using Array.mem_of_getElem? ht
        have hall : ([22, 37, 5].all fun u => !Tryd.prog.wantsStandIn u) = true := by kernel_rfl
        exact (show Tryd.prog.wantsStandIn t = false by simpa using List.all_eq_true.1 hall t hm)⟩)
    (by kernel_rfl)
#print axioms frameTurned_card
end Go.Proofs.YtphljhbeahkkaaaDoor
