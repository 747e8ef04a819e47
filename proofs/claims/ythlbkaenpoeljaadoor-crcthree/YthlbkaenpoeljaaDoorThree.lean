/- CrcThree is proved: of three slices of bytes of one size the sums, xor one another, are the sum of the bytes, xor one another; the table of four bits is tied to the program's text. No other condition. -/
import Derived.Test.YthlbkaenpoeljaaDoorOwn
import Derived.Deep.RegionHeld3
import Derived.Deep.AppendLies
namespace Go.Proofs.YthlbkaenpoeljaaDoor
open Go.ChangeShapes Go.WideShapes Go.ChangeAt Go.RowKit

namespace CrcThree

def mix (x y z : List Nat) : List Nat := List.zipWith (· ^^^ ·) (List.zipWith (· ^^^ ·) x y) z

theorem mix_at {x y z : List Nat} {len k : Nat} (hx : x.length = len) (hy : y.length = len) (hz : z.length = len) (hk : k < len) : (mix x y z).take (k + 1) = (mix x y z).take k ++ [(x.getD k 0 ^^^ y.getD k 0) ^^^ z.getD k 0] := by
  have hl : k < (mix x y z).length := by simp [mix]; omega
  rw [List.take_succ_eq_append_getElem hl, getD_at (by omega), getD_at (by omega), getD_at (by omega)]
  simp [mix]

theorem mix_small {x y z : List Nat} (hx : ∀ c ∈ x, c < 256) (hy : ∀ c ∈ y, c < 256) (hz : ∀ c ∈ z, c < 256) : ∀ c ∈ mix x y z, c < 256 := by
  intro c hc
  obtain ⟨i, hi, rfl⟩ := List.mem_iff_getElem.1 hc
  simp only [mix, List.getElem_zipWith]
  exact xor_lt8 (xor_lt8 (hx _ (List.getElem_mem _)) (hy _ (List.getElem_mem _))) (hz _ (List.getElem_mem _))

set_option maxHeartbeats 1000000 in
theorem core (a b c : Option Addr) (len ca cb cc : Nat) (x y z : List Nat) (w : World) (hsm : len ≤ 2000)
    (HA : Hid (Calls Tryd.prog 8 #[] w fun e w' => e = .returned (.bool true) ∧ Below w.heap.size w w'))
    (HT : Hid (Tab w)) (HX : Hid (Row w a len x)) (HY : Hid (Row w b len y)) (HZ : Hid (Row w c len z)) :
    Calls Tryd.prog 5 #[.slice a len ca, .slice b len cb, .slice c len cc] w fun e w' => e = .returned (.bool true) ∧ Below w.heap.size w w' := by
  obtain ⟨i0, hi, hz0, hz1, hz2⟩ := info_parts info5
  have Hi := Lib.hid hi
  have Hz0 := Lib.hid hz0
  have Hz1 := Lib.hid hz1
  have Hz2 := Lib.hid hz2
  clear hi hz0 hz1 hz2
  go_enter Tryd.func5, Tryd.ntmps5
  go_wp2_with fail
  refine HA.out.mono ?_
  rintro e w1 ⟨rfl, hB⟩
  have HB := Lib.hid hB
  clear hB HA
  go_wp2_with fail
  go_loopw [7, 30] (fun v i wr => ∃ k : Nat, k ≤ len ∧ i = .int .i64 k ∧ Hid (wr.ownsRow w.heap.size 5 1 v k (cellsOf ((mix x y z).take k))) ∧ Hid (Below w.heap.size w wr)) (fun _ i _ => len - (intOf i).toNat)
  case atStart => exact ⟨0, Nat.zero_le _, rfl, Lib.hid (World.ownsRow_nil _ _ _ _), HB⟩
  case round =>
    obtain ⟨k, hk, rfl, hown, hbel⟩ := hrel
    by_cases hlt : k < len
    · obtain ⟨b1, o1, ha1, hc1⟩ := HX.out.cells.resolve_left (by omega)
      obtain ⟨b2, o2, ha2, hc2⟩ := HY.out.cells.resolve_left (by omega)
      obtain ⟨b3, o3, ha3, hc3⟩ := HZ.out.cells.resolve_left (by omega)
      have l1 := block_lt_of_cell (hc1 k hlt)
      have l2 := block_lt_of_cell (hc2 k hlt)
      have l3 := block_lt_of_cell (hc3 k hlt)
      have e1 : wr.cell? ⟨b1, o1 + k, none⟩ = some (.int .u8 ((x.getD k 0 : Nat) : Int)) := by rw [hbel.out.cell (p := ⟨b1, o1 + k, none⟩) l1]; exact hc1 k hlt
      have e2 : wr.cell? ⟨b2, o2 + k, none⟩ = some (.int .u8 ((y.getD k 0 : Nat) : Int)) := by rw [hbel.out.cell (p := ⟨b2, o2 + k, none⟩) l2]; exact hc2 k hlt
      have e3 : wr.cell? ⟨b3, o3 + k, none⟩ = some (.int .u8 ((z.getD k 0 : Nat) : Int)) := by rw [hbel.out.cell (p := ⟨b3, o3 + k, none⟩) l3]; exact hc3 k hlt
      have hbs := hbel.out.size
      have a1 : u7.ownBlock ≠ some b1 := fun h => by have := (hown.out.lt b1 h).1; simp at l1; omega
      have a2 : u7.ownBlock ≠ some b2 := fun h => by have := (hown.out.lt b2 h).1; simp at l2; omega
      have a3 : u7.ownBlock ≠ some b3 := fun h => by have := (hown.out.lt b3 h).1; simp at l3; omega
      have A1 := Lib.hid a1
      have A2 := Lib.hid a2
      have A3 := Lib.hid a3
      have m1 : b1 < wr.heap.size := Nat.lt_of_lt_of_le l1 hbs
      have m2 : b2 < wr.heap.size := Nat.lt_of_lt_of_le l2 hbs
      have m3 : b3 < wr.heap.size := Nat.lt_of_lt_of_le l3 hbs
      have hx1 : x.getD k 0 < 256 := small_at HX.out hlt
      have hx2 : y.getD k 0 < 256 := small_at HY.out hlt
      have hx3 : z.getD k 0 < 256 := small_at HZ.out hlt
      have f1 := u8_xor_nat _ _ hx1 hx2
      have f2 := u8_xor_nat _ _ (xor_lt8 hx1 hx2) hx3
      have HM := Lib.hid (mix_at (HX.out.size) (HY.out.size) (HZ.out.size) hlt)
      generalize (x.getD k 0 ^^^ y.getD k 0) ^^^ z.getD k 0 = n at f2 HM
      generalize x.getD k 0 ^^^ y.getD k 0 = m at f1 f2
      generalize x.getD k 0 = p1 at e1 f1
      generalize y.getD k 0 = p2 at e2 f1
      generalize z.getD k 0 = p3 at e3 f2
      clear hc1 hc2 hc3 l1 l2 l3 a1 a2 a3 hx1 hx2 hx3
      subst ha1 ha2 ha3
      have k0 : (0 : Int) ≤ (k : Int) := Int.natCast_nonneg _
      have k1 : (k : Int) < (len : Int) := by omega
      go_wp2_with fail
      go_region_held3 (fun w' => w'.cell? ⟨b1, o1 + k, none⟩ = some (.int .u8 (p1 : Int)) ∧ w'.cell? ⟨b2, o2 + k, none⟩ = some (.int .u8 (p2 : Int)) ∧ w'.cell? ⟨b3, o3 + k, none⟩ = some (.int .u8 (p3 : Int)))
        (first
          | go_keep
          | (go_split_ands
             refine ⟨?_, ?_, ?_⟩
             · (rw [hgrow.cell_far _ (by simp; omega) (Ne.symm A1.out)]; assumption)
             · (rw [hgrow.cell_far _ (by simp; omega) (Ne.symm A2.out)]; assumption)
             · (rw [hgrow.cell_far _ (by simp; omega) (Ne.symm A3.out)]; assumption)))
        ((refine step_append_lies _ (by rfl) _ _ _ (by rfl) w.heap.size 5 i0 _ 1 1 Tryd.underlying23 Hi.out Hz0.out Hz1.out Hz2.out rfl (by omega) u7 k _ (by rfl) ((hown.out.alloc _).drew)
            ⟨wr.heap.size, 0, none⟩ 1 1 [.int .u8 (n : Int)] (by rfl) (by rfl) (World.news_of_block (cs := #[.int .u8 (n : Int)]) (t := 5) (fr := (0, 0)) (heap_alloc_new wr _)) (by simp [Value.oneCell'])
            (by omega) (by unfold maxLen; omega) (by omega) (by simp; omega) (wr.heap.size + 1) (by simp) ?_; intro gg cap w2 hown1 hgrow hat hlt2))
      have HO : Hid (w2.ownsRow w.heap.size 5 1 (.slice (some ⟨gg, 0, none⟩) (k + 1) cap) (k + 1) (cellsOf ((mix x y z).take (k + 1)))) := Lib.hid (by
        rw [HM.out]; simpa [cellsOf] using hown1)
      have HB2 : Hid (Below w.heap.size w w2) := Lib.hid (((hbel.out.alloc hbs _).drew).grown hgrow (by simp; omega) (fun j hj => (hown.out.lt j hj).1))
      clear hown1 hgrow hat hlt2 hown hbel e1 e2 e3 f1 f2 A1 A2 A3 HM m1 m2 m3
      go_wp2_with fail
      go_roundw
      case rel => exact ⟨k + 1, by omega, by go_num, HO, HB2⟩
      case measure => simp [intOf]; omega
    · obtain rfl : k = len := by omega
      have hml : (mix x y z).length = k := by have := HX.out.size; have := HY.out.size; have := HZ.out.size; simp [mix]; omega
      have hms := mix_small HX.out.small HY.out.small HZ.out.small
      have ho := hown.out
      rw [List.take_of_length_le (by omega)] at ho
      obtain ⟨ad, capd, hv, hRd, hnm⟩ := row_of_owns ho hms
      have hT := HT.out.below hbel.out
      have s1 := sum_any a k ca x wr hT (HX.out.below hbel.out) hnm
      have s2 := sum_any b k cb y wr hT (HY.out.below hbel.out) hnm
      have s3 := sum_any c k cc z wr hT (HZ.out.below hbel.out) hnm
      have s4 := sum_any ad k capd _ wr hT hRd hnm
      have hz3 := Crc.zip3 x y z (by rw [HX.out.size, HY.out.size]) (by rw [HX.out.size, HZ.out.size])
      have g1 := Crc.next_lt 0 x (by omega) HX.out.small
      have g2 := Crc.next_lt 0 y (by omega) HY.out.small
      have g3 := Crc.next_lt 0 z (by omega) HZ.out.small
      have f1 := u32_xor_nat _ _ g1 g2
      have f2 := u32_xor_nat _ _ (Crc.xor_lt32 g1 g2) g3
      have e4 : Crc.next 0 (mix x y z) = (Crc.next 0 x ^^^ Crc.next 0 y) ^^^ Crc.next 0 z := hz3
      rw [e4] at s4
      clear hz3 e4 g1 g2 g3 ho hms hml hown hRd hT hnm
      generalize (Crc.next 0 x ^^^ Crc.next 0 y) ^^^ Crc.next 0 z = t4 at s4 f2
      generalize Crc.next 0 x ^^^ Crc.next 0 y = t0 at f1 f2
      generalize Crc.next 0 x = t1 at s1 f1
      generalize Crc.next 0 y = t2 at s2 f1
      generalize Crc.next 0 z = t3 at s3 f2
      have S1 := Lib.hid s1
      have S2 := Lib.hid s2
      have S3 := Lib.hid s3
      have S4 := Lib.hid s4
      clear s1 s2 s3 s4
      subst hv
      go_wp2_with fail
      refine S1.out.mono ?_
      rintro e w' ⟨rfl, rfl⟩
      go_wp2_with fail
      refine S2.out.mono ?_
      rintro e w' ⟨rfl, rfl⟩
      go_wp2_with fail
      refine S3.out.mono ?_
      rintro e w' ⟨rfl, rfl⟩
      go_wp2_with fail
      refine S4.out.mono ?_
      rintro e w' ⟨rfl, rfl⟩
      go_wp2_with fail
      go_ret
      exact ⟨rfl, hbel.out⟩

set_option maxHeartbeats 400000 in
theorem core_big (a b c : Option Addr) (la lb lc ca cb cc : Nat) (w : World) (hl : la ≤ 2 ^ 63 - 1) (hb : 2000 < la)
    (HA : Hid (Calls Tryd.prog 8 #[] w fun e w' => e = .returned (.bool true) ∧ Below w.heap.size w w')) :
    Calls Tryd.prog 5 #[.slice a la ca, .slice b lb cb, .slice c lc cc] w fun e w' => e = .returned (.bool true) ∧ Below w.heap.size w w' := by
  go_enter Tryd.func5, Tryd.ntmps5
  go_wp2_with fail
  refine HA.out.mono ?_
  rintro e w1 ⟨rfl, hB⟩
  have HB := Lib.hid hB
  clear hB HA
  go_wp2_with fail
  go_ret
  exact ⟨rfl, HB.out⟩

set_option maxHeartbeats 400000 in
theorem core_b (a b c : Option Addr) (la lb lc ca cb cc : Nat) (w : World) (hsm : la ≤ 2000) (hn : ((la : Int) != (lb : Int)) = true)
    (HA : Hid (Calls Tryd.prog 8 #[] w fun e w' => e = .returned (.bool true) ∧ Below w.heap.size w w')) :
    Calls Tryd.prog 5 #[.slice a la ca, .slice b lb cb, .slice c lc cc] w fun e w' => e = .returned (.bool true) ∧ Below w.heap.size w w' := by
  go_enter Tryd.func5, Tryd.ntmps5
  go_wp2_with fail
  refine HA.out.mono ?_
  rintro e w1 ⟨rfl, hB⟩
  have HB := Lib.hid hB
  clear hB HA
  go_wp2_with fail
  go_ret
  exact ⟨rfl, HB.out⟩

set_option maxHeartbeats 400000 in
theorem core_c (a b c : Option Addr) (la lc ca cb cc : Nat) (w : World) (hsm : la ≤ 2000) (hn : ((la : Int) != (lc : Int)) = true)
    (HA : Hid (Calls Tryd.prog 8 #[] w fun e w' => e = .returned (.bool true) ∧ Below w.heap.size w w')) :
    Calls Tryd.prog 5 #[.slice a la ca, .slice b la cb, .slice c lc cc] w fun e w' => e = .returned (.bool true) ∧ Below w.heap.size w w' := by
  go_enter Tryd.func5, Tryd.ntmps5
  go_wp2_with fail
  refine HA.out.mono ?_
  rintro e w1 ⟨rfl, hB⟩
  have HB := Lib.hid hB
  clear hB HA
  go_wp2_with fail
  go_ret
  exact ⟨rfl, HB.out⟩

theorem walk (a b c : Option Addr) (la lb lc ca cb cc : Nat) (x y z : List Nat) (w : World) (hT : Tab w) (hX : Row w a la x) (hY : Row w b lb y) (hZ : Row w c lc z) (g0 : la ≤ maxLen) (_g1 : lb ≤ maxLen) (_g2 : lc ≤ maxLen) :
    Calls Tryd.prog 5 #[.slice a la ca, .slice b lb cb, .slice c lc cc] w fun e w' => e = .returned (.bool true) ∧ Below w.heap.size w w' := by
  have HA := Lib.hid (alive_any w hT)
  by_cases h1 : 2000 < la
  · exact core_big a b c la lb lc ca cb cc w (by unfold maxLen at g0; exact g0) h1 HA
  by_cases h2 : la = lb
  · subst h2
    by_cases h3 : la = lc
    · subst h3
      exact core a b c la ca cb cc x y z w (by omega) HA (Lib.hid hT) (Lib.hid hX) (Lib.hid hY) (Lib.hid hZ)
    · exact core_c a b c la lc ca cb cc w (by omega) (by simp; omega) HA
  · exact core_b a b c la lb lc ca cb cc w (by omega) (by simp; omega) HA

set_option maxRecDepth 100000 in
theorem lifted (os : Os) (started : os.Started) (H : Type) (enc : TypeId × Value → H) :
    ReturnsInHanded {} Tryd.checked os 5 .any (fun w args => (Rows.crcThreeSpec.pre enc Tryd.prog Tryd.f5 [] false w args ∧ laidMetH Tryd.prog laid1 w) ∧ sizedMet enc Tryd.prog Tryd.f5 (OpenSpec.ofChange Rows.crcThreeSpec) false w args)
      (Rows.crcThreeSpec.post enc Tryd.prog Tryd.f5 false true false false) := by
  refine returnsInHanded_of_change_and (C := Tryd.checked) (X := fun w _ => laidMetH Tryd.prog laid1 w) (fun _ _ _ hh h => h.of_heap hh) own started (by kernel_rfl) Tryd.func5
    (ChangeSpec.witness_shaped (enc := enc) (C := Tryd.checked) (os := os) (X := fun w _ => laidMetH Tryd.prog laid1 w) false (World.doorLaid Tryd.prog 14 os) #[.slice none 0 0, .slice none 0 0, .slice none 0 0] 8 rfl (World.shaped_of_RefB (by kernel_rfl) (by kernel_rfl)) (by kernel_rfl) (by kernel_rfl) (by kernel_rfl) (door_met os _)) ?_
  intro W base args ds gs before hval0 hW _ _ hL _
  have hval : ∀ (j : Nat) t v, Tryd.f5.params[j]? = some t → args[j]? = some v → Value.okWide Tryd.prog W .any base t v := hval0
  have hW' := hW
  obtain ⟨p, q, hA0, hV, rfl, hfz, hnd⟩ := hW
  have hA : DataW.TrodAll enc Tryd.prog W 0 (fun _ => true) true Tryd.f5.params.toList args.toList ds p := hA0
  rw [Tryd.params5] at hA hval
  obtain ⟨v0, v1, v2, d0, d1, d2, p0, p1, p2, rfl, rfl, rfl, h0, h1, h2⟩ := trodAll_three hA
  obtain ⟨rfl, rfl⟩ := trodVars_none hV
  obtain ⟨a, la, ca, rfl⟩ := okWide_slice Tryd.underlying23 (hval 0 23 v0 rfl rfl)
  obtain ⟨b, lb, cb, rfl⟩ := okWide_slice Tryd.underlying23 (hval 1 23 v1 rfl rfl)
  obtain ⟨c, lc, cc, rfl⟩ := okWide_slice Tryd.underlying23 (hval 2 23 v2 rfl rfl)
  have lt0 : ∀ x ∈ p0, x.block < W.heap.size := by obtain ⟨m, hm⟩ := h0; exact DataW.trod_lt m _ _ _ hm
  have lt1 : ∀ x ∈ p1, x.block < W.heap.size := by obtain ⟨m, hm⟩ := h1; exact DataW.trod_lt m _ _ _ hm
  have lt2 : ∀ x ∈ p2, x.block < W.heap.size := by obtain ⟨m, hm⟩ := h2; exact DataW.trod_lt m _ _ _ hm
  obtain ⟨g0, _, x, hX⟩ := row_of h0
  obtain ⟨g1, _, y, hY⟩ := row_of h1
  obtain ⟨g2, _, z, hZ⟩ := row_of h2
  clear hA0 hval0
  refine (walk a b c la lb lc ca cb cc x y z W (of_laid hL) hX hY hZ g0 g1 g2).mono fun e W' ⟨he, bel⟩ => ?_
  subst he
  exact ⟨_, rfl, _, _, _, [], _, [], hW', trodAll_mk1 (shut_bool Tryd.underlying4 _), trodAll_mk3 (Below.trod laidOut (by kernel_rfl) (of_decide_eq_true (by kernel_rfl)) h0 bel lt0) (Below.trod laidOut (by kernel_rfl) (of_decide_eq_true (by kernel_rfl)) h1 bel lt1) (Below.trod laidOut (by kernel_rfl) (of_decide_eq_true (by kernel_rfl)) h2 bel lt2), rfl, bel.frame _, fun h => by cases h⟩

theorem row_holds : Rows.CrcThreeSaid :=
  OpenClaim.holds_of_wide 5 Tryd.f5 rfl rfl rfl rfl rfl rfl rfl ⟨rfl, rfl, rfl, rfl, rfl⟩ rfl rfl rfl rfl rfl (by kernel_rfl) Tryd.func5 (by kernel_rfl)
    (of_decide_eq_true (by kernel_rfl)) (by unfold Func.isWrapper; first | (rw [if_pos (by decide +kernel)]; kernel_rfl) | (rw [if_neg (by decide +kernel)]; exact ⟨rfl, rfl⟩))
    (fun os started H enc _ => lifted os started H enc)
end CrcThree

theorem crcThree_card : Rows.CrcThreeCardSaid :=
  Claim7.holds_tied_plain_at .later [] [.data] true (true, "04750c20021f63e0bf1dd7265baba7e1902850d1a958cc97a4fe7804d3d7b0d1") false
    CrcThree.row_holds (fun _ h => by cases h) (by kernel_rfl) (fun _ h => by cases h) crcThree_row_tie rfl ⟨rfl, rfl⟩ (by kernel_rfl) rfl
    (fun f fn hf hfn => by
      obtain rfl : f = 5 := Option.some.inj ((show Tryd.prog.funcNamed "trug/truglaw01.CrcThree" = some 5 by kernel_rfl).symm.trans hf) |>.symm
      obtain rfl : fn = Tryd.f5 := (Option.some.inj (Tryd.func5.symm.trans hfn)).symm
      exact ⟨by kernel_rfl, fun j t ht => by
        rw [Tryd.params5] at ht
        have hm : t ∈ [23, 23, 23] := by simpa using Array.mem_of_getElem? ht
        have hall : ([23, 23, 23].all fun u => !Tryd.prog.wantsStandIn u) = true := by kernel_rfl
        exact (show Tryd.prog.wantsStandIn t = false by simpa using List.all_eq_true.1 hall t hm)⟩)
    (by kernel_rfl)
#print axioms crcThree_card
end Go.Proofs.YthlbkaenpoeljaaDoor
