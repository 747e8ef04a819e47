/- CrcDiffer is proved: how the sums of two slices of bytes of one size differ is how the sum of their bytes, xor one another, differs from that of as many noughts; the table of four bits is tied to the program's text. No other condition. -/
import Derived.Test.YthlbkaenpoeljaaDoorOwn
import Derived.Deep.RegionHeld3
import Derived.Deep.AppendLies
import Derived.Deep.RegionWith
namespace Go.Proofs.YthlbkaenpoeljaaDoor
open Go.ChangeShapes Go.WideShapes Go.ChangeAt Go.RowKit

namespace CrcDiffer

def mix (x y : List Nat) : List Nat := List.zipWith (· ^^^ ·) x y

theorem mix_at {x y : List Nat} {len k : Nat} (hx : x.length = len) (hy : y.length = len) (hk : k < len) : (mix x y).take (k + 1) = (mix x y).take k ++ [x.getD k 0 ^^^ y.getD k 0] := by
  have hl : k < (mix x y).length := by simp [mix]; omega
  rw [List.take_succ_eq_append_getElem hl, getD_at (by omega), getD_at (by omega)]
  simp [mix]

theorem mix_small {x y : List Nat} (hx : ∀ c ∈ x, c < 256) (hy : ∀ c ∈ y, c < 256) : ∀ c ∈ mix x y, c < 256 := by
  intro c hc
  obtain ⟨i, hi, rfl⟩ := List.mem_iff_getElem.1 hc
  simp only [mix, List.getElem_zipWith]
  exact xor_lt8 (hx _ (List.getElem_mem _)) (hy _ (List.getElem_mem _))

set_option maxHeartbeats 1000000 in
theorem core (a b : Option Addr) (len ca cb : Nat) (x y : List Nat) (w : World) (hsm : len ≤ 2000)
    (HA : Hid (Calls Tryd.prog 8 #[] w fun e w' => e = .returned (.bool true) ∧ Below w.heap.size w w'))
    (HT : Hid (Tab w)) (HX : Hid (Row w a len x)) (HY : Hid (Row w b len y)) :
    Calls Tryd.prog 7 #[.slice a len ca, .slice b len cb] w fun e w' => e = .returned (.bool true) ∧ Below w.heap.size w w' := by
  obtain ⟨i0, hi, hz0, hz1, hz2⟩ := info_parts info5
  have Hi := Lib.hid hi
  have Hz0 := Lib.hid hz0
  have Hz1 := Lib.hid hz1
  have Hz2 := Lib.hid hz2
  clear hi hz0 hz1 hz2
  go_enter Tryd.func7, Tryd.ntmps7
  go_wp2_with fail
  refine HA.out.mono ?_
  rintro e w1 ⟨rfl, hB⟩
  have HB := Lib.hid hB
  clear hB HA
  go_wp2_with fail
  go_loopw [5, 21] (fun v i wr => ∃ k : Nat, k ≤ len ∧ i = .int .i64 k ∧ Hid (wr.ownsRow w.heap.size 5 1 v k (cellsOf ((mix x y).take k))) ∧ Hid (Below w.heap.size w wr)) (fun _ i _ => len - (intOf i).toNat)
  case atStart => exact ⟨0, Nat.zero_le _, rfl, Lib.hid (World.ownsRow_nil _ _ _ _), HB⟩
  case round =>
    obtain ⟨k, hk, rfl, hown, hbel⟩ := hrel
    by_cases hlt : k < len
    · obtain ⟨b1, o1, ha1, hc1⟩ := HX.out.cells.resolve_left (by omega)
      obtain ⟨b2, o2, ha2, hc2⟩ := HY.out.cells.resolve_left (by omega)
      have l1 := block_lt_of_cell (hc1 k hlt)
      have l2 := block_lt_of_cell (hc2 k hlt)
      have e1 : wr.cell? ⟨b1, o1 + k, none⟩ = some (.int .u8 ((x.getD k 0 : Nat) : Int)) := by rw [hbel.out.cell (p := ⟨b1, o1 + k, none⟩) l1]; exact hc1 k hlt
      have e2 : wr.cell? ⟨b2, o2 + k, none⟩ = some (.int .u8 ((y.getD k 0 : Nat) : Int)) := by rw [hbel.out.cell (p := ⟨b2, o2 + k, none⟩) l2]; exact hc2 k hlt
      have hbs := hbel.out.size
      have a1 : u5.ownBlock ≠ some b1 := fun h => by have := (hown.out.lt b1 h).1; simp at l1; omega
      have a2 : u5.ownBlock ≠ some b2 := fun h => by have := (hown.out.lt b2 h).1; simp at l2; omega
      have A1 := Lib.hid a1
      have A2 := Lib.hid a2
      have m1 : b1 < wr.heap.size := Nat.lt_of_lt_of_le l1 hbs
      have m2 : b2 < wr.heap.size := Nat.lt_of_lt_of_le l2 hbs
      have hx1 : x.getD k 0 < 256 := small_at HX.out hlt
      have hx2 : y.getD k 0 < 256 := small_at HY.out hlt
      have f1 := u8_xor_nat _ _ hx1 hx2
      have HM := Lib.hid (mix_at (HX.out.size) (HY.out.size) hlt)
      generalize x.getD k 0 ^^^ y.getD k 0 = n at f1 HM
      generalize x.getD k 0 = p1 at e1 f1
      generalize y.getD k 0 = p2 at e2 f1
      clear hc1 hc2 l1 l2 a1 a2 hx1 hx2
      subst ha1 ha2
      have k0 : (0 : Int) ≤ (k : Int) := Int.natCast_nonneg _
      have k1 : (k : Int) < (len : Int) := by omega
      go_wp2_with fail
      go_region_held3 (fun w' => w'.cell? ⟨b1, o1 + k, none⟩ = some (.int .u8 (p1 : Int)) ∧ w'.cell? ⟨b2, o2 + k, none⟩ = some (.int .u8 (p2 : Int)))
        (first
          | go_keep
          | (go_split_ands
             refine ⟨?_, ?_⟩
             · (rw [hgrow.cell_far _ (by simp; omega) (Ne.symm A1.out)]; assumption)
             · (rw [hgrow.cell_far _ (by simp; omega) (Ne.symm A2.out)]; assumption)))
        ((refine step_append_lies _ (by rfl) _ _ _ (by rfl) w.heap.size 5 i0 _ 1 1 Tryd.underlying23 Hi.out Hz0.out Hz1.out Hz2.out rfl (by omega) u5 k _ (by rfl) ((hown.out.alloc _).drew)
            ⟨wr.heap.size, 0, none⟩ 1 1 [.int .u8 (n : Int)] (by rfl) (by rfl) (World.news_of_block (cs := #[.int .u8 (n : Int)]) (t := 5) (fr := (0, 0)) (heap_alloc_new wr _)) (by simp [Value.oneCell'])
            (by omega) (by unfold maxLen; omega) (by omega) (by simp; omega) (wr.heap.size + 1) (by simp) ?_; intro gg cap w2 hown1 hgrow hat hlt2))
      have HO : Hid (w2.ownsRow w.heap.size 5 1 (.slice (some ⟨gg, 0, none⟩) (k + 1) cap) (k + 1) (cellsOf ((mix x y).take (k + 1)))) := Lib.hid (by
        rw [HM.out]; simpa [cellsOf] using hown1)
      have HB2 : Hid (Below w.heap.size w w2) := Lib.hid (((hbel.out.alloc hbs _).drew).grown hgrow (by simp; omega) (fun j hj => (hown.out.lt j hj).1))
      clear hown1 hgrow hat hlt2 hown hbel e1 e2 f1 A1 A2 HM m1 m2
      go_wp2_with fail
      go_roundw
      case rel => exact ⟨k + 1, by omega, by go_num, HO, HB2⟩
      case measure => simp [intOf]; omega
    · obtain rfl : k = len := by omega
      have hml : (mix x y).length = k := by have := HX.out.size; have := HY.out.size; simp [mix]; omega
      have hms := mix_small HX.out.small HY.out.small
      have ho := hown.out
      rw [List.take_of_length_le (by omega)] at ho
      obtain ⟨ad, capd, hv, hRd, hnm⟩ := row_of_owns ho hms
      have hT := HT.out.below hbel.out
      have s1 := fun W (hB : Below wr.heap.size wr W) => sum_any a k ca x W (hT.below hB) ((HX.out.below hbel.out).below hB) hnm
      have s2 := fun W (hB : Below wr.heap.size wr W) => sum_any b k cb y W (hT.below hB) ((HY.out.below hbel.out).below hB) hnm
      have s3 := fun W (hB : Below wr.heap.size wr W) => sum_any ad k capd _ W (hT.below hB) (hRd.below hB) hnm
      have s4 := fun W (hB : Below wr.heap.size wr W) (hz : W.heap[wr.heap.size]? = some (.cells (zerosOf k) 5)) => sum_any (some ⟨wr.heap.size, 0, none⟩) k k _ W (hT.below hB) (row_zeros hz) hnm
      have hz2 := Crc.zip2 x y (by rw [HX.out.size, HY.out.size])
      rw [HX.out.size] at hz2
      have g1 := Crc.next_lt 0 x (by omega) HX.out.small
      have g2 := Crc.next_lt 0 y (by omega) HY.out.small
      have g3 := Crc.next_lt 0 (mix x y) (by omega) hms
      have g4 := Crc.next_lt 0 (List.replicate k 0) (by omega) (by intro c hc; have := (List.mem_replicate.1 hc).2; omega)
      have f1 := u32_xor_nat _ _ g1 g2
      have f2 := u32_xor_nat _ _ g3 g4
      have e4 : Crc.next 0 (mix x y) ^^^ Crc.next 0 (List.replicate k 0) = Crc.next 0 x ^^^ Crc.next 0 y := hz2
      rw [e4] at f2
      have hmk := fun W => run_zeros k hsm W
      clear hz2 e4 g1 g2 g3 g4 ho hms hml hown hRd hT hnm
      generalize Crc.next 0 x ^^^ Crc.next 0 y = t0 at f1 f2
      generalize Crc.next 0 x = t1 at s1 f1
      generalize Crc.next 0 y = t2 at s2 f1
      generalize Crc.next 0 (mix x y) = t3 at s3 f2
      generalize Crc.next 0 (List.replicate k 0) = t4 at s4 f2
      have S1 := Lib.hid s1
      have S2 := Lib.hid s2
      have S3 := Lib.hid s3
      have S4 := Lib.hid s4
      clear s1 s2 s3 s4
      subst hv
      go_wp2_with fail
      go_region_with (first
        | (go_at_call_of 9 (Value.slice a k ca); refine (S1.out _ ?_).mono ?_; (first | exact (Below.refl _ _).drew | exact ((Below.refl _ _).alloc (Nat.le_refl _) _).drew); rintro e w' ⟨rfl, rfl⟩)
        | (go_at_call_of 9 (Value.slice b k cb); refine (S2.out _ ?_).mono ?_; (first | exact (Below.refl _ _).drew | exact ((Below.refl _ _).alloc (Nat.le_refl _) _).drew); rintro e w' ⟨rfl, rfl⟩)
        | (go_at_call_of 9 (Value.slice ad k capd); refine (S3.out _ ?_).mono ?_; (first | exact (Below.refl _ _).drew | exact ((Below.refl _ _).alloc (Nat.le_refl _) _).drew); rintro e w' ⟨rfl, rfl⟩)
        | (go_at_call 9; refine (S4.out _ ?_ ?_).mono ?_; exact ((Below.refl _ _).alloc (Nat.le_refl _) _).drew; exact heap_alloc_new _ _; rintro e w' ⟨rfl, rfl⟩))
      all_goals go_wp2_with fail
      all_goals go_ret
      all_goals exact ⟨rfl, (hbel.out.alloc hbel.out.size _).drew⟩

set_option maxHeartbeats 400000 in
theorem core_big (a b : Option Addr) (la lb ca cb : Nat) (w : World) (hl : la ≤ 2 ^ 63 - 1) (hb : 2000 < la)
    (HA : Hid (Calls Tryd.prog 8 #[] w fun e w' => e = .returned (.bool true) ∧ Below w.heap.size w w')) :
    Calls Tryd.prog 7 #[.slice a la ca, .slice b lb cb] w fun e w' => e = .returned (.bool true) ∧ Below w.heap.size w w' := by
  go_enter Tryd.func7, Tryd.ntmps7
  go_wp2_with fail
  refine HA.out.mono ?_
  rintro e w1 ⟨rfl, hB⟩
  have HB := Lib.hid hB
  clear hB HA
  go_wp2_with fail
  go_ret
  exact ⟨rfl, HB.out⟩

set_option maxHeartbeats 400000 in
theorem core_b (a b : Option Addr) (la lb ca cb : Nat) (w : World) (hsm : la ≤ 2000) (hn : ((la : Int) != (lb : Int)) = true)
    (HA : Hid (Calls Tryd.prog 8 #[] w fun e w' => e = .returned (.bool true) ∧ Below w.heap.size w w')) :
    Calls Tryd.prog 7 #[.slice a la ca, .slice b lb cb] w fun e w' => e = .returned (.bool true) ∧ Below w.heap.size w w' := by
  go_enter Tryd.func7, Tryd.ntmps7
  go_wp2_with fail
  refine HA.out.mono ?_
  rintro e w1 ⟨rfl, hB⟩
  have HB := Lib.hid hB
  clear hB HA
  go_wp2_with fail
  go_ret
  exact ⟨rfl, HB.out⟩

theorem walk (a b : Option Addr) (la lb ca cb : Nat) (x y : List Nat) (w : World) (hT : Tab w) (hX : Row w a la x) (hY : Row w b lb y) (g0 : la ≤ maxLen) :
    Calls Tryd.prog 7 #[.slice a la ca, .slice b lb cb] w fun e w' => e = .returned (.bool true) ∧ Below w.heap.size w w' := by
  have HA := Lib.hid (alive_any w hT)
  by_cases h1 : 2000 < la
  · exact core_big a b la lb ca cb w (by unfold maxLen at g0; exact g0) h1 HA
  by_cases h2 : la = lb
  · subst h2
    exact core a b la ca cb x y w (by omega) HA (Lib.hid hT) (Lib.hid hX) (Lib.hid hY)
  · exact core_b a b la lb ca cb w (by omega) (by simp; omega) HA

set_option maxRecDepth 100000 in
theorem lifted (os : Os) (started : os.Started) (H : Type) (enc : TypeId × Value → H) :
    ReturnsInHanded {} Tryd.checked os 7 .any (fun w args => (Rows.crcDifferSpec.pre enc Tryd.prog Tryd.f7 [] false w args ∧ laidMetH Tryd.prog laid1 w) ∧ sizedMet enc Tryd.prog Tryd.f7 (OpenSpec.ofChange Rows.crcDifferSpec) false w args)
      (Rows.crcDifferSpec.post enc Tryd.prog Tryd.f7 false true false false) := by
  refine returnsInHanded_of_change_and (C := Tryd.checked) (X := fun w _ => laidMetH Tryd.prog laid1 w) (fun _ _ _ hh h => h.of_heap hh) own started (by kernel_rfl) Tryd.func7
    (ChangeSpec.witness_shaped (enc := enc) (C := Tryd.checked) (os := os) (X := fun w _ => laidMetH Tryd.prog laid1 w) false (World.doorLaid Tryd.prog 14 os) #[.slice none 0 0, .slice none 0 0] 8 rfl (World.shaped_of_RefB (by kernel_rfl) (by kernel_rfl)) (by kernel_rfl) (by kernel_rfl) (by kernel_rfl) (door_met os _)) ?_
  intro W base args ds gs before hval0 hW _ _ hL _
  have hval : ∀ (j : Nat) t v, Tryd.f7.params[j]? = some t → args[j]? = some v → Value.okWide Tryd.prog W .any base t v := hval0
  have hW' := hW
  obtain ⟨p, q, hA0, hV, rfl, hfz, hnd⟩ := hW
  have hA : DataW.TrodAll enc Tryd.prog W 0 (fun _ => true) true Tryd.f7.params.toList args.toList ds p := hA0
  rw [Tryd.params7] at hA hval
  obtain ⟨v0, v1, d0, d1, p0, p1, rfl, rfl, rfl, h0, h1⟩ := trodAll_two hA
  obtain ⟨rfl, rfl⟩ := trodVars_none hV
  obtain ⟨a, la, ca, rfl⟩ := okWide_slice Tryd.underlying23 (hval 0 23 v0 rfl rfl)
  obtain ⟨b, lb, cb, rfl⟩ := okWide_slice Tryd.underlying23 (hval 1 23 v1 rfl rfl)
  have lt0 : ∀ x ∈ p0, x.block < W.heap.size := by obtain ⟨m, hm⟩ := h0; exact DataW.trod_lt m _ _ _ hm
  have lt1 : ∀ x ∈ p1, x.block < W.heap.size := by obtain ⟨m, hm⟩ := h1; exact DataW.trod_lt m _ _ _ hm
  obtain ⟨g0, _, x, hX⟩ := row_of h0
  obtain ⟨_, _, y, hY⟩ := row_of h1
  clear hA0 hval0
  refine (walk a b la lb ca cb x y W (of_laid hL) hX hY g0).mono fun e W' ⟨he, bel⟩ => ?_
  subst he
  exact ⟨_, rfl, _, _, _, [], _, [], hW', trodAll_mk1 (shut_bool Tryd.underlying4 _), trodAll_mk2 (Below.trod laidOut (by kernel_rfl) (of_decide_eq_true (by kernel_rfl)) h0 bel lt0) (Below.trod laidOut (by kernel_rfl) (of_decide_eq_true (by kernel_rfl)) h1 bel lt1), rfl, bel.frame _, fun h => by cases h⟩

theorem row_holds : Rows.CrcDifferSaid :=
  OpenClaim.holds_of_wide 7 Tryd.f7 rfl rfl rfl rfl rfl rfl rfl ⟨rfl, rfl, rfl, rfl, rfl⟩ rfl rfl rfl rfl rfl (by kernel_rfl) Tryd.func7 (by kernel_rfl)
    (of_decide_eq_true (by kernel_rfl)) (by unfold Func.isWrapper; first | (rw [if_pos (by decide +kernel)]; kernel_rfl) | (rw [if_neg (by decide +kernel)]; exact ⟨rfl, rfl⟩))
    (fun os started H enc _ => lifted os started H enc)
end CrcDiffer

theorem crcDiffer_card : Rows.CrcDifferCardSaid :=
  Claim7.holds_tied_plain_at .later [] [.data] true (true, "04750c20021f63e0bf1dd7265baba7e1902850d1a958cc97a4fe7804d3d7b0d1") false
    CrcDiffer.row_holds (fun _ h => by cases h) (by kernel_rfl) (fun _ h => by cases h) crcDiffer_row_tie rfl ⟨rfl, rfl⟩ (by kernel_rfl) rfl
    (fun f fn hf hfn => by
      obtain rfl : f = 7 := Option.some.inj ((show Tryd.prog.funcNamed "trug/truglaw01.CrcDiffer" = some 7 by kernel_rfl).symm.trans hf) |>.symm
      obtain rfl : fn = Tryd.f7 := (Option.some.inj (Tryd.func7.symm.trans hfn)).symm
      exact ⟨by kernel_rfl, fun j t ht => by
        rw [Tryd.params7] at ht
        have hm : t ∈ [23, 23] := by simpa using Array.mem_of_getElem? ht
        have hall : ([23, 23].all fun u => !Tryd.prog.wantsStandIn u) = true := by kernel_rfl
        exact (show Tryd.prog.wantsStandIn t = false by simpa using List.all_eq_true.1 hall t hm)⟩)
    (by kernel_rfl)
#print axioms crcDiffer_card
end Go.Proofs.YthlbkaenpoeljaaDoor
