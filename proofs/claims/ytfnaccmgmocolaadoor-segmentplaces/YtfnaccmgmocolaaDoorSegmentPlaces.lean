/- SegmentPlaces is proved: of any history that was written to a segment, at each place that is told a record begins, which is its operation's; the table of four bits is tied to the program's text. No other condition. -/
import Derived.Test.YtfnaccmgmocolaaDoorWo
namespace Go.Proofs.YtfnaccmgmocolaaDoor
namespace SegmentPlaces
open Go.ChangeShapes Go.WideShapes Go.ChangeAt Go.RowKit

/-- What the law has in memory while it looks at the places. -/
structure Pl (w W : World) (id : Nat) (g : List O) (n : Nat) (ba : Option Addr) (nb bc : Nat) (ga : Option Addr) (gc : Nat) (a2 : Option Addr) (c2 : Nat) : Prop where
  b : Own W w.heap.size ba nb bc (Seg.headB id ++ Seg.recs g)
  o : OwnG W 29 23 w.heap.size ga n gc (cellsO g)
  at_ : OwnG W 3 1 w.heap.size a2 n c2 (cellsN (Seg.starts (Seg.headB id).length g))
  old : Below w.heap.size w W
theorem Pl.below {w W W' : World} {id n : Nat} {g : List O} {ba ga a2 : Option Addr} {nb bc gc c2 : Nat} (h : Pl w W id g n ba nb bc ga gc a2 c2) (hb : Below W.heap.size W W') : Pl w W' id g n ba nb bc ga gc a2 c2 :=
  ⟨h.b.below hb, h.o.below hb, h.at_.below hb, h.old.trans (hb.mono h.old.size)⟩
/-- At one place. -/
structure Pk (w W : World) (ba : Option Addr) (nb bc A F : Nat) (ra : Option Addr) (f : List Nat) : Prop where
  cut : Row W (cutA ba bc A) (A + F - A) f
  rec_ : Row W ra F f
  old : Below w.heap.size w W
theorem Pk.below {w W W' : World} {ba ra : Option Addr} {nb bc A F : Nat} {f : List Nat} (h : Pk w W ba nb bc A F ra f) (hb : Below W.heap.size W W') : Pk w W' ba nb bc A F ra f :=
  ⟨h.cut.below hb, h.rec_.below hb, h.old.trans (hb.mono h.old.size)⟩

set_option maxHeartbeats 4000000 in
set_option maxRecDepth 100000 in
theorem walk (id : Nat) (a : Option Addr) (len cap : Nat) (l : List O) (w : World) (hT : Tab w) (hid : id < 4294967296) (hlen : len ≤ 9223372036854775807) (hl : OL w a len l) :
    Calls Tryd.prog 7 #[.int .u32 (id : Int), .slice a len cap] w fun e w' => e = .returned (.bool true) ∧ Below w.heap.size w w' := by
  have HA := Lib.hid (alive_any w hT)
  have HT := Lib.hid hT
  have HL := Lib.hid hl
  clear hT hl
  go_enter Tryd.func7, Tryd.ntmps7
  go_wp2_with fail
  refine HA.out.mono ?_
  rintro e w1 ⟨rfl, hb1⟩
  have HW := Lib.hid (written_any id a len cap l w1 (HT.out.below hb1) hid hlen (HL.out.below hb1))
  have HT1 := Lib.hid (HT.out.below hb1)
  have HB1 := Lib.hid hb1
  clear hb1 HA HL HT
  go_wp2_with fail
  refine HW.out.mono ?_
  rintro e w2 ⟨n, ba, nb, bc, ga, gc, ea, ec, rfl, hwn⟩
  have HWN := Lib.hid hwn
  obtain ⟨hgl, hbl⟩ := hwn.len
  have hnl := Seg.goods_len l 30
  have hrl := Seg.recs_len (Seg.goods l 30)
  have hhl := Seg.fr_pair_le (k := 1) (n := id) (by omega) (by omega)
  change (Seg.headB id).length ≤ 40 at hhl
  rw [List.length_append] at hbl
  have hnb : nb ≤ 20000 := by omega
  have hn30 : n ≤ 30 := by omega
  have HGR := Lib.hid (Seg.goods_right l 30)
  have HSC := Lib.hid (Seg.scan_plain (id := id) hid (Seg.goods_right l 30))
  have HBS := Lib.hid (Seg.headrecs_lt id (Seg.goods l 30))
  have HHL : Hid ((Seg.headB id).length + (Seg.recs (Seg.goods l 30)).length = nb) := Lib.hid hbl
  have HGL := Lib.hid hgl
  have HSL := Lib.hid (Seg.starts_len (Seg.headB id).length (Seg.goods l 30))
  have HAT := Lib.hid (fun (k : Nat) (x : O) => Seg.at_bytes (g := Seg.goods l 30) (p := Seg.headB id) (k := k) (x := x))
  clear hwn hgl hbl hnl hrl hhl HW
  generalize Seg.goods l 30 = g at *
  go_wp2_with fail
  refine (sscan_any ba nb bc _ w2 (HT1.out.below HWN.out.old) (HWN.out.b.row HBS.out) HWN.out.b.cap.2.2 HWN.out.b.cap.1 (by omega)).mono ?_
  intro e w3 hq
  obtain ⟨a1, c1, a2, c2, rfl, hl1, hl2, hb3⟩ := tells_of (n := n) HSC.out HGL.out (HSL.out.trans HGL.out) hq
  have HPL3 : Hid (Pl w1 w3 id g n ba nb bc ga gc a2 c2) := Lib.hid ⟨HWN.out.b.below hb3, HWN.out.o.below hb3, hl2.mono HWN.out.old.size, HWN.out.old.trans (hb3.mono HWN.out.old.size)⟩
  clear hq hl1 hl2 hb3 HWN HSC
  generalize hUU : (Seg.headB id).length + (Seg.recs g).length = U
  clear hUU
  simp only
  go_wp2_with (first | (refine wpList_run rfl (exec_ialloc44 rfl) ?_) | (refine wpList_istop44 rfl ?_))
  refine ⟨?_⟩
  refine wpList_void rfl rfl (exec_istore44 (id := 0) (id2 := id) (a1 := a1) (n1 := n) (c1 := c1) (a2 := a2) (n2 := n) (c2 := c2) (s2 := false) (u2 := U) (u := 0) rfl rfl rfl (Blk.new w3 44 infoZ)) ?_
  have hlo := ilaid_old w3 infoZ (infoV id (.slice a1 n c1) (.slice a2 n c2) false U)
  have hx4 := ilaid_blk w3 infoZ (infoV id (.slice a1 n c1) (.slice a2 n c2) false U)
  have HPL4 := Lib.hid (HPL3.out.below hlo)
  clear hlo HPL3
  generalize (w3.alloc (.cells infoZ 44)).setRow w3.heap.size (infoV id (.slice a1 n c1) (.slice a2 n c2) false U) = w4 at hx4 HPL4
  generalize w3.heap.size = g9 at hx4
  have k2 : w4.cell? ⟨g9, 2, none⟩ = some (.slice a2 n c2) := by rw [hx4.cell]; rfl
  clear hx4
  go_wp2_with fail
  go_loopw [45] (fun v wr => ∃ k : Nat, v = .int .i64 (k : Int) ∧ k ≤ n ∧ Hid (Pl w1 wr id g n ba nb bc ga gc a2 c2)) (fun v _ => n - (intOf v).toNat)
  case atStart => exact ⟨0, rfl, Nat.zero_le _, HPL4⟩
  case round =>
    clear k2 HPL4
    obtain ⟨k, rfl, hk, HM⟩ := hrel
    by_cases hlt : k < n
    · obtain ⟨x, hx⟩ : ∃ x, g[k]? = some x := ⟨_, List.getElem?_eq_getElem (by rw [HGL.out]; exact hlt)⟩
      obtain ⟨A, hA, hAF, hcut⟩ := HAT.out k x hx
      obtain ⟨b2, f2, rfl, hc2, _⟩ := int_idx HM.out.at_ hA
      obtain ⟨b3, f3, rfl, hr3, _⟩ := op_idx HM.out.o hx
      have HC2 := Lib.hid hc2
      have HR3 := Lib.hid hr3
      have HXR := Lib.hid (HGR.out x (List.mem_of_getElem? hx))
      have HCUT := Lib.hid hcut
      rw [List.length_append, HHL.out] at hAF
      have hcap := HM.out.b.cap.1
      clear hx hA hc2 hr3 hcut
      go_wp2_with (first | (refine wpList_run rfl (exec_idxN (i := k) rfl rfl rfl rfl hlt) ?_) | (refine wpList_run rfl (exec_ldC 3 agg3 rfl rfl HC2.out) ?_) | (refine wpList_run rfl (exec_idxO (i := k) rfl rfl rfl rfl hlt) ?_) | (refine wpList_run rfl (exec_ldO (p := x) rfl rfl HR3.out) ?_))
      refine (record_any x wr (HT1.out.below HM.out.old)).mono ?_
      intro e w5 hq
      obtain ⟨ra, rc, rfl, hro, hrb⟩ := recordP_get HXR.out hq
      have HPL5 := Lib.hid (HM.out.below hrb)
      have HPK : Hid (Pk w1 w5 ba nb bc A (Frm.fr (Seg.recB x)).length ra (Frm.fr (Seg.recB x))) := Lib.hid ⟨by
        have := cut_rows ((HM.out.b.row HBS.out).below hrb) (k := A) (h := A + (Frm.fr (Seg.recB x)).length) (by omega) hAF hcap
        rw [HCUT.out] at this
        exact this, hro.row (Frm.fr_lt (Seg.rec_lt x)), HPL5.out.old⟩
      clear hq hro hrb HM HC2 HR3 HXR HCUT
      generalize Frm.fr (Seg.recB x) = f at hAF HPK
      generalize f.length = F at hAF HPK
      go_upto_region 28 with fail
      refine wp_region_held_drew (S := fun w' => Pk w1 w' ba nb bc A F ra f ∧ Below w5.heap.size w5 w') (by kernel_rfl) ⟨HPK.out.below (drew_below _), drew_below _⟩ (fun hS => ?_)
      refine held_take 0 58 (.int .i64 0) rfl rfl (by kernel_rfl) (by kernel_rfl) (by kernel_rfl) (fun _ _ _ h => h) (by kernel_rfl) (fun _ _ => rfl) hS ?_
      simp only [Act.put, List.setIfInBounds_toArray, List.set_cons_zero, List.set_cons_succ]
      refine held_take 1 59 (.bool false) rfl rfl (by kernel_rfl) (by kernel_rfl) (by kernel_rfl) (fun _ _ _ h => h) (by kernel_rfl) (fun _ _ => exec_neqI trivial rfl rfl rfl (by simp)) hS ?_
      simp only [Act.put, List.setIfInBounds_toArray, List.set_cons_zero, List.set_cons_succ]
      refine held_take 2 60 (.bool false) rfl rfl (by kernel_rfl) (by kernel_rfl) (by kernel_rfl) (fun _ _ _ h => h) (by kernel_rfl) (fun _ _ => rfl) hS ?_
      simp only [Act.put, List.setIfInBounds_toArray, List.set_cons_zero, List.set_cons_succ]
      refine held_take 3 61 (.int .i64 (A : Int)) rfl rfl (by kernel_rfl) (by kernel_rfl) (by kernel_rfl) (fun _ _ _ h => h) (by kernel_rfl) (fun _ _ => rfl) hS ?_
      simp only [Act.put, List.setIfInBounds_toArray, List.set_cons_zero, List.set_cons_succ]
      refine held_take 4 62 (.bool false) rfl rfl (by kernel_rfl) (by kernel_rfl) (by kernel_rfl) (fun _ _ _ h => h) (by kernel_rfl) (fun _ _ => exec_lssI rfl rfl rfl (by simp)) hS ?_
      simp only [Act.put, List.setIfInBounds_toArray, List.set_cons_zero, List.set_cons_succ]
      refine held_take 5 63 (.bool false) rfl rfl (by kernel_rfl) (by kernel_rfl) (by kernel_rfl) (fun _ _ _ h => h) (by kernel_rfl) (fun _ _ => rfl) hS ?_
      simp only [Act.put, List.setIfInBounds_toArray, List.set_cons_zero, List.set_cons_succ]
      refine held_take 6 64 (.bool false) rfl rfl (by kernel_rfl) (by kernel_rfl) (by kernel_rfl) (fun _ _ _ h => h) (by kernel_rfl) (fun _ _ => rfl) hS ?_
      simp only [Act.put, List.setIfInBounds_toArray, List.set_cons_zero, List.set_cons_succ]
      refine held_take 7 65 (.int .i64 (A : Int)) rfl rfl (by kernel_rfl) (by kernel_rfl) (by kernel_rfl) (fun _ _ _ h => h) (by kernel_rfl) (fun _ _ => rfl) hS ?_
      simp only [Act.put, List.setIfInBounds_toArray, List.set_cons_zero, List.set_cons_succ]
      refine held_take 8 66 (.slice ra F rc) rfl rfl (by kernel_rfl) (by kernel_rfl) (by kernel_rfl) (fun _ _ _ h => h) (by kernel_rfl) (fun _ _ => rfl) hS ?_
      simp only [Act.put, List.setIfInBounds_toArray, List.set_cons_zero, List.set_cons_succ]
      refine held_take 9 67 (.int .i64 (F : Int)) rfl rfl (by kernel_rfl) (by kernel_rfl) (by kernel_rfl) (fun _ _ _ h => h) (by kernel_rfl) (fun _ _ => exec_lenS ⟨_, Tryd.underlying31⟩ rfl rfl) hS ?_
      simp only [Act.put, List.setIfInBounds_toArray, List.set_cons_zero, List.set_cons_succ]
      refine held_take 10 68 (.int .i64 ((A + F : Nat) : Int)) rfl rfl (by kernel_rfl) (by kernel_rfl) (by kernel_rfl) (fun _ _ _ h => h) (by kernel_rfl) (fun _ _ => exec_addN rfl rfl rfl (by omega)) hS ?_
      simp only [Act.put, List.setIfInBounds_toArray, List.set_cons_zero, List.set_cons_succ]
      refine held_take 11 69 (.slice ba nb bc) rfl rfl (by kernel_rfl) (by kernel_rfl) (by kernel_rfl) (fun _ _ _ h => h) (by kernel_rfl) (fun _ _ => rfl) hS ?_
      simp only [Act.put, List.setIfInBounds_toArray, List.set_cons_zero, List.set_cons_succ]
      refine held_take 12 70 (.int .i64 (nb : Int)) rfl rfl (by kernel_rfl) (by kernel_rfl) (by kernel_rfl) (fun _ _ _ h => h) (by kernel_rfl) (fun _ _ => exec_lenS ⟨_, Tryd.underlying31⟩ rfl rfl) hS ?_
      simp only [Act.put, List.setIfInBounds_toArray, List.set_cons_zero, List.set_cons_succ]
      refine held_take 13 71 (.bool false) rfl rfl (by kernel_rfl) (by kernel_rfl) (by kernel_rfl) (fun _ _ _ h => h) (by kernel_rfl) (fun _ _ => exec_gtrI rfl rfl rfl (by simp; omega)) hS ?_
      simp only [Act.put, List.setIfInBounds_toArray, List.set_cons_zero, List.set_cons_succ]
      refine held_take 14 72 (.bool false) rfl rfl (by kernel_rfl) (by kernel_rfl) (by kernel_rfl) (fun _ _ _ h => h) (by kernel_rfl) (fun _ _ => rfl) hS ?_
      simp only [Act.put, List.setIfInBounds_toArray, List.set_cons_zero, List.set_cons_succ]
      refine held_take 15 73 (.bool false) rfl rfl (by kernel_rfl) (by kernel_rfl) (by kernel_rfl) (fun _ _ _ h => h) (by kernel_rfl) (fun _ _ => rfl) hS ?_
      simp only [Act.put, List.setIfInBounds_toArray, List.set_cons_zero, List.set_cons_succ]
      refine held_take 16 74 (.slice ba nb bc) rfl rfl (by kernel_rfl) (by kernel_rfl) (by kernel_rfl) (fun _ _ _ h => h) (by kernel_rfl) (fun _ _ => rfl) hS ?_
      simp only [Act.put, List.setIfInBounds_toArray, List.set_cons_zero, List.set_cons_succ]
      refine held_take 17 75 (.int .i64 (A : Int)) rfl rfl (by kernel_rfl) (by kernel_rfl) (by kernel_rfl) (fun _ _ _ h => h) (by kernel_rfl) (fun _ _ => rfl) hS ?_
      simp only [Act.put, List.setIfInBounds_toArray, List.set_cons_zero, List.set_cons_succ]
      refine held_take 18 76 (.int .i64 (A : Int)) rfl rfl (by kernel_rfl) (by kernel_rfl) (by kernel_rfl) (fun _ _ _ h => h) (by kernel_rfl) (fun _ _ => rfl) hS ?_
      simp only [Act.put, List.setIfInBounds_toArray, List.set_cons_zero, List.set_cons_succ]
      refine held_take 19 77 (.slice ra F rc) rfl rfl (by kernel_rfl) (by kernel_rfl) (by kernel_rfl) (fun _ _ _ h => h) (by kernel_rfl) (fun _ _ => rfl) hS ?_
      simp only [Act.put, List.setIfInBounds_toArray, List.set_cons_zero, List.set_cons_succ]
      refine held_take 20 78 (.int .i64 (F : Int)) rfl rfl (by kernel_rfl) (by kernel_rfl) (by kernel_rfl) (fun _ _ _ h => h) (by kernel_rfl) (fun _ _ => exec_lenS ⟨_, Tryd.underlying31⟩ rfl rfl) hS ?_
      simp only [Act.put, List.setIfInBounds_toArray, List.set_cons_zero, List.set_cons_succ]
      refine held_take 21 79 (.int .i64 ((A + F : Nat) : Int)) rfl rfl (by kernel_rfl) (by kernel_rfl) (by kernel_rfl) (fun _ _ _ h => h) (by kernel_rfl) (fun _ _ => exec_addN rfl rfl rfl (by omega)) hS ?_
      simp only [Act.put, List.setIfInBounds_toArray, List.set_cons_zero, List.set_cons_succ]
      refine held_take 22 80 (.slice (cutA ba bc A) (A + F - A) (bc - A)) rfl rfl (by kernel_rfl) (by kernel_rfl) (by kernel_rfl) (fun _ _ _ h => h) (by kernel_rfl) (fun _ _ => exec_sliceLH rfl rfl rfl rfl (by omega) (by omega)) hS ?_
      simp only [Act.put, List.setIfInBounds_toArray, List.set_cons_zero, List.set_cons_succ]
      refine held_take 23 81 (.string (strOf f)) rfl rfl (by kernel_rfl) (by kernel_rfl) (by kernel_rfl) (fun _ _ _ h => h) (by kernel_rfl) (fun _ h => exec_str rfl rfl (conv_any (cap := bc - A) h.1.cut)) hS ?_
      simp only [Act.put, List.setIfInBounds_toArray, List.set_cons_zero, List.set_cons_succ]
      refine held_take 24 82 (.slice ra F rc) rfl rfl (by kernel_rfl) (by kernel_rfl) (by kernel_rfl) (fun _ _ _ h => h) (by kernel_rfl) (fun _ _ => rfl) hS ?_
      simp only [Act.put, List.setIfInBounds_toArray, List.set_cons_zero, List.set_cons_succ]
      refine held_take 25 83 (.string (strOf f)) rfl rfl (by kernel_rfl) (by kernel_rfl) (by kernel_rfl) (fun _ _ _ h => h) (by kernel_rfl) (fun _ h => exec_str rfl rfl (conv_any (cap := rc) h.1.rec_)) hS ?_
      simp only [Act.put, List.setIfInBounds_toArray, List.set_cons_zero, List.set_cons_succ]
      refine held_take 26 84 (.bool false) rfl rfl (by kernel_rfl) (by kernel_rfl) (by kernel_rfl) (fun _ _ _ h => h) (by kernel_rfl) (fun _ _ => exec_neqS rfl rfl rfl (by simp)) hS ?_
      simp only [Act.put, List.setIfInBounds_toArray, List.set_cons_zero, List.set_cons_succ]
      refine held_take 27 85 (.bool false) rfl rfl (by kernel_rfl) (by kernel_rfl) (by kernel_rfl) (fun _ _ _ h => h) (by kernel_rfl) (fun _ _ => rfl) hS ?_
      simp only [Act.put, List.setIfInBounds_toArray, List.set_cons_zero, List.set_cons_succ]
      refine wpAnyH_done (by kernel_rfl) ?_ _
      have HPL6 := Lib.hid (HPL5.out.below hS.2)
      clear hS HPK HPL5
      go_wp2_with fail
      go_roundw
      case rel => exact ⟨k + 1, by go_num, by omega, HPL6⟩
      case measure => simp [intOf]; omega
    · go_wp2_with fail
      go_ret
      exact ⟨rfl, HB1.out.trans (HM.out.old.mono HB1.out.size)⟩

set_option maxRecDepth 100000 in
theorem lifted (os : Os) (started : os.Started) (H : Type) (enc : TypeId × Value → H) :
    ReturnsInHanded {} Tryd.checked os 7 .any (fun w args => (Rows.segmentPlacesSpec.pre enc Tryd.prog Tryd.f7 [] false w args ∧ laidMetH Tryd.prog laid1 w) ∧ sizedMet enc Tryd.prog Tryd.f7 (OpenSpec.ofChange Rows.segmentPlacesSpec) false w args)
      (Rows.segmentPlacesSpec.post enc Tryd.prog Tryd.f7 false true false false) := by
  refine returnsInHanded_of_change_and (C := Tryd.checked) (X := fun w _ => laidMetH Tryd.prog laid1 w) (fun _ _ _ hh h => h.of_heap hh) own started (by kernel_rfl) Tryd.func7
    (ChangeSpec.witness_shaped (enc := enc) (C := Tryd.checked) (os := os) (X := fun w _ => laidMetH Tryd.prog laid1 w) false (World.doorLaid Tryd.prog 914 os) #[.int .u32 0, .slice none 0 0] 8 rfl (World.shaped_of_RefB (by kernel_rfl) (by kernel_rfl)) (by kernel_rfl) (by kernel_rfl) (by kernel_rfl) (door_met os _)) ?_
  intro W base args ds gs before hval0 hW _ _ hL _
  have hval : ∀ (j : Nat) t v, Tryd.f7.params[j]? = some t → args[j]? = some v → Value.okWide Tryd.prog W .any base t v := hval0
  have hW' := hW
  obtain ⟨p, q, hA0, hV, rfl, hfz, hnd⟩ := hW
  have hA : DataW.TrodAll enc Tryd.prog W 0 (fun _ => true) true Tryd.f7.params.toList args.toList ds p := hA0
  rw [Tryd.params7] at hA hval
  obtain ⟨v0, v1, d0, d1, p0, p1, rfl, rfl, rfl, h0, h1⟩ := trodAll_two hA
  obtain ⟨rfl, rfl⟩ := trodVars_none hV
  obtain ⟨m0, rfl, rfl, rfl, w0⟩ := open_int Tryd.underlying22 (hval 0 22 v0 rfl rfl) h0
  obtain ⟨a1, len1, cap1, rfl⟩ := okWide_slice Tryd.underlying41 (hval 1 41 v1 rfl rfl)
  have c0 := bounds_u32 w0
  obtain ⟨n0, rfl⟩ := Int.eq_ofNat_of_zero_le c0.1
  have lt1 : ∀ x ∈ p1, x.block < W.heap.size := by obtain ⟨m, hm⟩ := h1; exact DataW.trod_lt m _ _ _ hm
  obtain ⟨m1, l1, x1⟩ := ops_of h1
  clear hA0 hval0
  refine (walk n0 a1 len1 cap1 l1 W (of_laid hL) (by omega) (by unfold maxLen at m1; omega) x1).mono fun e W' ⟨he, bel⟩ => ?_
  subst he
  exact ⟨_, rfl, _, _, _, [], _, [], hW', trodAll_mk1 (shut_bool Tryd.underlying4 _), trodAll_mk2 (shut_int Tryd.underlying22 w0) (Below.trod laidOut (by kernel_rfl) (of_decide_eq_true (by kernel_rfl)) h1 bel lt1), rfl, bel.frame _, fun h => by cases h⟩

theorem row_holds : Rows.SegmentPlacesSaid :=
  OpenClaim.holds_of_wide 7 Tryd.f7 rfl rfl rfl rfl rfl rfl rfl ⟨rfl, rfl, rfl, rfl, rfl⟩ rfl rfl rfl rfl rfl (by kernel_rfl) Tryd.func7 (by kernel_rfl)
    (of_decide_eq_true (by kernel_rfl)) (by unfold Func.isWrapper; first | (rw [if_pos (by decide +kernel)]; kernel_rfl) | (rw [if_neg (by decide +kernel)]; exact ⟨rfl, rfl⟩))
    (fun os started H enc _ => lifted os started H enc)
end SegmentPlaces

theorem segmentPlaces_card : Rows.SegmentPlacesCardSaid :=
  Claim7.holds_tied_plain_at .later [] [.data] true (true, "5cb79ddcbf4508aa173619bff2636ccbe3431f194f34513c361fdadce8ffbb83") false
    SegmentPlaces.row_holds (fun _ h => by cases h) (by kernel_rfl) (fun _ h => by cases h) segmentPlaces_row_tie rfl ⟨rfl, rfl⟩ (by kernel_rfl) rfl
    (fun f fn hf hfn => by
      obtain rfl : f = 7 := Option.some.inj ((show Tryd.prog.funcNamed "trug/truglaw12.SegmentPlaces" = some 7 by kernel_rfl).symm.trans hf) |>.symm
      obtain rfl : fn = Tryd.f7 := (Option.some.inj (Tryd.func7.symm.trans hfn)).symm
      exact ⟨by kernel_rfl, fun j t ht => by
        rw [Tryd.params7] at ht
        have hm : t ∈ [22, 41] := by simpa using Array.mem_of_getElem? ht
        have hall : ([22, 41].all fun u => !Tryd.prog.wantsStandIn u) = true := by kernel_rfl
        exact (show Tryd.prog.wantsStandIn t = false by simpa using List.all_eq_true.1 hall t hm)⟩)
    (by kernel_rfl)
#print axioms segmentPlaces_card
end Go.Proofs.YtfnaccmgmocolaaDoor
