/- CrcTurned is proved: of a slice of bytes and the same with one byte turned by a number that is not nought, the sums are unlike; the table of four bits is tied to the program's text. No other condition. -/
import Derived.Test.YthlbkaenpoeljaaDoorOwn
import Derived.Deep.AppendLies
namespace Go.Proofs.YthlbkaenpoeljaaDoor
namespace CrcTurned
open Go.ChangeShapes Go.WideShapes Go.ChangeAt Go.RowKit

/-- One byte of a text, turned. -/
theorem sums_unlike (l : List Nat) (i t : Nat) (hs : ∀ c ∈ l, c < 256) (hi : i < l.length) (ht : t < 256) (h0 : t ≠ 0) : Crc.next 0 (l.set i (l.getD i 0 ^^^ t)) ≠ Crc.next 0 l := by
  intro h
  have hp : l[i] < 256 := hs _ (List.getElem_mem hi)
  rw [getD_at hi] at h
  have e1 : l = l.take i ++ l[i] :: l.drop (i + 1) := by
    rw [← List.drop_eq_getElem_cons hi, List.take_append_drop]
  have e2 : l.set i (l[i] ^^^ t) = l.take i ++ (l[i] ^^^ t) :: l.drop (i + 1) := by
    rw [List.set_eq_take_append_cons_drop, if_pos hi]
  rw [e2] at h
  have e3 : Crc.next 0 l = Crc.next 0 (l.take i ++ l[i] :: l.drop (i + 1)) := congrArg _ e1
  rw [e3] at h
  have := Crc.turned (l.take i) (l.drop (i + 1)) (l[i] ^^^ t) l[i] (xor_lt8 hp ht) hp (fun c hc => hs c (List.mem_of_mem_take hc)) (fun c hc => hs c (List.mem_of_mem_drop hc)) h
  have e4 : l[i] ^^^ t = l[i] ^^^ 0 := by rw [this, Nat.xor_zero]
  exact h0 (Crc.cancel_left e4)

/-- A store into a row of the call's own. -/
theorem row_set {w : World} {B g n cap i q : Nat} {l : List Nat} (h : w.ownsRow B 5 1 (.slice (some ⟨g, 0, none⟩) n cap) n (cellsOf l)) (hs : ∀ c ∈ l, c < 256) (hi : i < n) (hq : q < 256) :
    Row (w.setCell ⟨g, i, none⟩ (.int .u8 (q : Int))) (some ⟨g, 0, none⟩) n (l.set i q) := by
  obtain ⟨a, cap', hv, hR, _⟩ := row_of_owns h hs
  simp only [Value.slice.injEq] at hv
  obtain ⟨rfl, _, rfl⟩ := hv
  obtain ⟨b, off, ha, hc⟩ := hR.cells.resolve_left (by omega)
  simp only [Option.some.injEq, Addr.mk.injEq, and_true] at ha
  obtain ⟨rfl, rfl⟩ := ha
  have hl := hR.size
  refine ⟨by simp [hl], fun c hc => ?_, .inr ⟨g, 0, rfl, fun j hj => ?_⟩⟩
  · rcases List.mem_or_eq_of_mem_set hc with h | h
    · exact hs c h
    · omega
  · simp only [Nat.zero_add] at hc ⊢
    by_cases hji : j = i
    · subst hji
      rw [World.cell?_setCell_same _ _ _ (hc j hj), getD_at (by rw [List.length_set]; omega)]
      simp
    · rw [World.cell?_setCell_other _ _ _ _ (by intro e; exact hji (by simpa using e.symm)), hc j hj, getD_at (by omega), getD_at (by rw [List.length_set]; omega), List.getElem_set_ne (by omega)]

theorem own_cell {w : World} {B g n cap i p : Nat} {l : List Nat} (h : w.ownsRow B 5 1 (.slice (some ⟨g, 0, none⟩) n cap) n (cellsOf l)) (hs : ∀ c ∈ l, c < 256) (hi : i < n) (hp : l.getD i 0 = p) :
    w.cell? ⟨g, i, none⟩ = some (.int .u8 (p : Int)) ∧ w.frozen? ⟨g, i, none⟩ = false := by
  refine ⟨?_, ?_⟩
  · obtain ⟨a, cap', hv, hR, _⟩ := row_of_owns h hs
    simp only [Value.slice.injEq] at hv
    obtain ⟨rfl, _, rfl⟩ := hv
    obtain ⟨b, off, ha, hc⟩ := hR.cells.resolve_left (by omega)
    simp only [Option.some.injEq, Addr.mk.injEq, and_true] at ha
    obtain ⟨rfl, rfl⟩ := ha
    have := hc i hi
    rw [hp] at this
    simpa using this
  · rcases h.2 with ⟨hv, _⟩ | ⟨g', cap', cur, hv, _, hg, _⟩
    · simp at hv
    · simp only [Value.slice.injEq, Option.some.injEq, Addr.mk.injEq, and_true] at hv
      obtain ⟨rfl, _⟩ := hv
      exact frozen_of_row w g i cur 5 hg

set_option maxHeartbeats 1000000 in
theorem core (b1 o1 len cap at_ t i p q : Nat) (l : List Nat) (w : World) (hsm : len ≤ 2000) (h0 : 0 < len) (hat : at_ < 65536) (ht : t < 256) (ht0 : ((t : Int) == 0) = false)
    (hl0 : ((len : Int) == 0) = false) (hmod : (at_ : Int) % (len : Int) = (i : Int)) (hi : i < len) (hp : Hid (l.getD i 0 = p)) (hq : Hid (q = p ^^^ t)) (hq2 : q < 256) (f1 : bits .xor .u8 (p : Int) (t : Int) = (q : Int))
    (HA : Hid (Calls Tryd.prog 8 #[] w fun e w' => e = .returned (.bool true) ∧ Below w.heap.size w w'))
    (HT : Hid (Tab w)) (HX : Hid (Row w (some ⟨b1, o1, none⟩) len l)) :
    Calls Tryd.prog 6 #[.slice (some ⟨b1, o1, none⟩) len cap, .int .u16 (at_ : Int), .int .u8 (t : Int)] w fun e w' => e = .returned (.bool true) ∧ Below w.heap.size w w' := by
  obtain ⟨i0, hii, hz0, hz1, hz2⟩ := info_parts info5
  have Hi := Lib.hid hii
  have Hz0 := Lib.hid hz0
  have Hz1 := Lib.hid hz1
  have Hz2 := Lib.hid hz2
  clear hii hz0 hz1 hz2
  go_enter Tryd.func6, Tryd.ntmps6
  go_wp2_with fail
  refine HA.out.mono ?_
  rintro e w1 ⟨rfl, hB⟩
  have HB := Lib.hid hB
  have HB1 := Lib.hid hB.size
  have HN : Hid (∀ j u, (cellsOf l)[j]? = some u → w1.cell? ((⟨b1, o1, none⟩ : Addr).add j) = some u) := Lib.hid (by
    intro j u hu
    have hR := HX.out.below hB
    obtain ⟨b', o', ha, hc⟩ := hR.cells.resolve_left (by omega)
    simp only [Option.some.injEq, Addr.mk.injEq, and_true] at ha
    obtain ⟨rfl, rfl⟩ := ha
    have hj : j < len := by
      have := (List.getElem?_eq_some_iff.1 hu).1
      simpa [cellsOf, hR.size] using this
    have h2 := hc j hj
    have hu2 : u = .int .u8 ((l.getD j 0 : Nat) : Int) := by
      have hjl : j < l.length := by rw [hR.size]; exact hj
      simp [cellsOf, hjl] at hu
      rw [← hu, getD_at hjl]
    rw [hu2, ← h2]
    by_cases hj0 : j = 0
    · subst hj0; simp [Addr.add]
    · simp [Addr.add, hj0])
  have HL : Hid ((cellsOf l).length = len * 1) := Lib.hid (by simp [cellsOf, HX.out.size])
  have H1 : Hid (∀ u ∈ cellsOf l, u.oneCell' = true) := Lib.hid (by
    intro u hu
    obtain ⟨n, _, rfl⟩ := List.mem_map.1 hu
    rfl)
  clear hB HA
  go_wp2_with (at_builtin; refine wpList_append_lies _ rfl _ _ 23 rfl w.heap.size 5 i0 (.int .u8 0) 1 1 Tryd.underlying23 Hi.out Hz0.out Hz1.out Hz2.out rfl (by omega) (.slice none 0 0) 0 [] rfl (World.ownsRow_nil _ _ _ _) ⟨b1, o1, none⟩ len cap (cellsOf l) rfl HL.out HN.out H1.out (by omega) (by unfold maxLen; omega) (by omega) HB1.out w1.heap.size rfl ?_; intro g cp w2 hown hgrow hat2 hlt2; simp only [Nat.zero_add, List.nil_append] at hown; obtain ⟨hc, hf⟩ := own_cell hown HX.out.small hi hp.out; have HO := Lib.hid hown; have HG := Lib.hid hgrow; clear hown hgrow hat2 hlt2)
  have hB2 : Below w.heap.size w w2 := HB.out.grown HG.out HB1.out (fun k hk => by simp [Value.ownBlock] at hk)
  have hB3 : Below w.heap.size w (w2.setCell ⟨g, i, none⟩ (.int .u8 (q : Int))) := hB2.setCell (HO.out.lt g rfl).1 _
  have s1 := sum_any (some ⟨g, 0, none⟩) len cp (l.set i q) _ (HT.out.below hB3) (row_set HO.out HX.out.small hi hq2) (by unfold maxLen; omega)
  have s2 := sum_any (some ⟨b1, o1, none⟩) len cap l _ (HT.out.below hB3) (HX.out.below hB3) (by unfold maxLen; omega)
  have hne := sums_unlike l i t HX.out.small (by rw [HX.out.size]; exact hi) ht (fun e => by subst e; simp at ht0)
  rw [hp.out, ← hq.out] at hne
  have HB3 := Lib.hid hB3
  generalize Crc.next 0 (l.set i q) = y1 at s1 hne
  generalize Crc.next 0 l = y2 at s2 hne
  have hbn : ((y1 : Int) != (y2 : Int)) = true := by simp; omega
  have S1 := Lib.hid s1
  have S2 := Lib.hid s2
  clear s1 s2 hne hB2 hB3 HO HG hc hf f1 HN HL H1
  refine S1.out.mono ?_
  rintro e w' ⟨rfl, rfl⟩
  go_wp2_with fail
  refine S2.out.mono ?_
  rintro e w' ⟨rfl, rfl⟩
  go_wp2_with fail
  go_ret
  exact ⟨rfl, HB3.out⟩

set_option maxHeartbeats 400000 in
theorem core_big (a : Option Addr) (len cap at_ t : Nat) (w : World) (hl : len ≤ 2 ^ 63 - 1) (hb : 2000 < len)
    (HA : Hid (Calls Tryd.prog 8 #[] w fun e w' => e = .returned (.bool true) ∧ Below w.heap.size w w')) :
    Calls Tryd.prog 6 #[.slice a len cap, .int .u16 (at_ : Int), .int .u8 (t : Int)] w fun e w' => e = .returned (.bool true) ∧ Below w.heap.size w w' := by
  go_enter Tryd.func6, Tryd.ntmps6
  go_wp2_with fail
  refine HA.out.mono ?_
  rintro e w1 ⟨rfl, hB⟩
  have HB := Lib.hid hB
  clear hB HA
  go_wp2_with fail
  go_ret
  exact ⟨rfl, HB.out⟩

set_option maxHeartbeats 400000 in
theorem core_nil (a : Option Addr) (len cap at_ t : Nat) (w : World) (hsm : len ≤ 2000) (hb : ((len : Int) == 0) = true)
    (HA : Hid (Calls Tryd.prog 8 #[] w fun e w' => e = .returned (.bool true) ∧ Below w.heap.size w w')) :
    Calls Tryd.prog 6 #[.slice a len cap, .int .u16 (at_ : Int), .int .u8 (t : Int)] w fun e w' => e = .returned (.bool true) ∧ Below w.heap.size w w' := by
  go_enter Tryd.func6, Tryd.ntmps6
  go_wp2_with fail
  refine HA.out.mono ?_
  rintro e w1 ⟨rfl, hB⟩
  have HB := Lib.hid hB
  clear hB HA
  go_wp2_with fail
  go_ret
  exact ⟨rfl, HB.out⟩

set_option maxHeartbeats 400000 in
theorem core_nought (a : Option Addr) (len cap at_ t : Nat) (w : World) (hsm : len ≤ 2000) (hb : ((len : Int) == 0) = false) (ht : ((t : Int) == 0) = true)
    (HA : Hid (Calls Tryd.prog 8 #[] w fun e w' => e = .returned (.bool true) ∧ Below w.heap.size w w')) :
    Calls Tryd.prog 6 #[.slice a len cap, .int .u16 (at_ : Int), .int .u8 (t : Int)] w fun e w' => e = .returned (.bool true) ∧ Below w.heap.size w w' := by
  go_enter Tryd.func6, Tryd.ntmps6
  go_wp2_with fail
  refine HA.out.mono ?_
  rintro e w1 ⟨rfl, hB⟩
  have HB := Lib.hid hB
  clear hB HA
  go_wp2_with fail
  go_ret
  exact ⟨rfl, HB.out⟩

theorem walk (a : Option Addr) (len cap at_ t : Nat) (l : List Nat) (w : World) (hT : Tab w) (hX : Row w a len l) (g0 : len ≤ maxLen) (hat : at_ < 65536) (ht : t < 256) :
    Calls Tryd.prog 6 #[.slice a len cap, .int .u16 (at_ : Int), .int .u8 (t : Int)] w fun e w' => e = .returned (.bool true) ∧ Below w.heap.size w w' := by
  have HA := Lib.hid (alive_any w hT)
  by_cases h1 : 2000 < len
  · exact core_big a len cap at_ t w (by unfold maxLen at g0; exact g0) h1 HA
  by_cases h2 : len = 0
  · exact core_nil a len cap at_ t w (by omega) (by simp; omega) HA
  by_cases h3 : t = 0
  · exact core_nought a len cap at_ t w (by omega) (by simp; omega) (by simp; omega) HA
  obtain ⟨b1, o1, ha, hc⟩ := hX.cells.resolve_left h2
  subst ha
  have hi : at_ % len < len := Nat.mod_lt _ (by omega)
  have hp : l.getD (at_ % len) 0 < 256 := small_at hX hi
  exact core b1 o1 len cap at_ t (at_ % len) (l.getD (at_ % len) 0) (l.getD (at_ % len) 0 ^^^ t) l w (by omega) (by omega) hat ht (by simp; omega) (by simp; omega) (by simp) hi (Lib.hid rfl) (Lib.hid rfl) (xor_lt8 hp ht) (u8_xor_nat _ _ hp ht) HA (Lib.hid hT) (Lib.hid hX)

set_option maxRecDepth 100000 in
theorem lifted (os : Os) (started : os.Started) (H : Type) (enc : TypeId × Value → H) :
    ReturnsInHanded {} Tryd.checked os 6 .any (fun w args => (Rows.crcTurnedSpec.pre enc Tryd.prog Tryd.f6 [] false w args ∧ laidMetH Tryd.prog laid1 w) ∧ sizedMet enc Tryd.prog Tryd.f6 (OpenSpec.ofChange Rows.crcTurnedSpec) false w args)
      (Rows.crcTurnedSpec.post enc Tryd.prog Tryd.f6 false true false false) := by
  refine returnsInHanded_of_change_and (C := Tryd.checked) (X := fun w _ => laidMetH Tryd.prog laid1 w) (fun _ _ _ hh h => h.of_heap hh) own started (by kernel_rfl) Tryd.func6
    (ChangeSpec.witness_shaped (enc := enc) (C := Tryd.checked) (os := os) (X := fun w _ => laidMetH Tryd.prog laid1 w) false (World.doorLaid Tryd.prog 14 os) #[.slice none 0 0, .int .u16 0, .int .u8 0] 8 rfl (World.shaped_of_RefB (by kernel_rfl) (by kernel_rfl)) (by kernel_rfl) (by kernel_rfl) (by kernel_rfl) (door_met os _)) ?_
  intro W base args ds gs before hval0 hW _ _ hL _
  have hval : ∀ (j : Nat) t v, Tryd.f6.params[j]? = some t → args[j]? = some v → Value.okWide Tryd.prog W .any base t v := hval0
  have hW' := hW
  obtain ⟨p, q, hA0, hV, rfl, hfz, hnd⟩ := hW
  have hA : DataW.TrodAll enc Tryd.prog W 0 (fun _ => true) true Tryd.f6.params.toList args.toList ds p := hA0
  rw [Tryd.params6] at hA hval
  obtain ⟨v0, v1, v2, d0, d1, d2, p0, p1, p2, rfl, rfl, rfl, h0, h1, h2⟩ := trodAll_three hA
  obtain ⟨rfl, rfl⟩ := trodVars_none hV
  obtain ⟨a, len, cap, rfl⟩ := okWide_slice Tryd.underlying23 (hval 0 23 v0 rfl rfl)
  obtain ⟨m1, rfl, rfl, rfl, w1⟩ := open_int Tryd.underlying28 (hval 1 28 v1 rfl rfl) h1
  obtain ⟨m2, rfl, rfl, rfl, w2⟩ := open_int Tryd.underlying5 (hval 2 5 v2 rfl rfl) h2
  have lt0 : ∀ x ∈ p0, x.block < W.heap.size := by obtain ⟨m, hm⟩ := h0; exact DataW.trod_lt m _ _ _ hm
  obtain ⟨g0, _, l, hX⟩ := row_of h0
  have c1 := bounds_u16 w1
  have c2 := bounds_u8 w2
  obtain ⟨n1, rfl⟩ := Int.eq_ofNat_of_zero_le c1.1
  obtain ⟨n2, rfl⟩ := Int.eq_ofNat_of_zero_le c2.1
  clear hA0 hval0
  refine (walk a len cap n1 n2 l W (of_laid hL) hX g0 (by omega) (by omega)).mono fun e W' ⟨he, bel⟩ => ?_
  subst he
  exact ⟨_, rfl, _, _, _, [], _, [], hW', trodAll_mk1 (shut_bool Tryd.underlying4 _), trodAll_mk3 (Below.trod laidOut (by kernel_rfl) (of_decide_eq_true (by kernel_rfl)) h0 bel lt0) (shut_int Tryd.underlying28 w1) (shut_int Tryd.underlying5 w2), rfl, bel.frame _, fun h => by cases h⟩

theorem row_holds : Rows.CrcTurnedSaid :=
  OpenClaim.holds_of_wide 6 Tryd.f6 rfl rfl rfl rfl rfl rfl rfl ⟨rfl, rfl, rfl, rfl, rfl⟩ rfl rfl rfl rfl rfl (by kernel_rfl) Tryd.func6 (by kernel_rfl)
    (of_decide_eq_true (by kernel_rfl)) (by unfold Func.isWrapper; first | (rw [if_pos (by decide +kernel)]; kernel_rfl) | (rw [if_neg (by decide +kernel)]; exact ⟨rfl, rfl⟩))
    (fun os started H enc _ => lifted os started H enc)
end CrcTurned

theorem crcTurned_card : Rows.CrcTurnedCardSaid :=
  Claim7.holds_tied_plain_at .later [] [.data] true (true, "04750c20021f63e0bf1dd7265baba7e1902850d1a958cc97a4fe7804d3d7b0d1") false
    CrcTurned.row_holds (fun _ h => by cases h) (by kernel_rfl) (fun _ h => by cases h) crcTurned_row_tie rfl ⟨rfl, rfl⟩ (by kernel_rfl) rfl
    (fun f fn hf hfn => by
      obtain rfl : f = 6 := Option.some.inj ((show Tryd.prog.funcNamed "trug/truglaw01.CrcTurned" = some 6 by kernel_rfl).symm.trans hf) |>.symm
      obtain rfl : fn = Tryd.f6 := (Option.some.inj (Tryd.func6.symm.trans hfn)).symm
      exact ⟨by kernel_rfl, fun j t ht => by
        rw [Tryd.params6] at ht
        have hm : t ∈ [23, 28, 5] := by simpa using Array.mem_of_getElem? ht
        have hall : ([23, 28, 5].all fun u => !Tryd.prog.wantsStandIn u) = true := by kernel_rfl
        exact (show Tryd.prog.wantsStandIn t = false by simpa using List.all_eq_true.1 hall t hm)⟩)
    (by kernel_rfl)
#print axioms crcTurned_card
end Go.Proofs.YthlbkaenpoeljaaDoor
