/- SegmentScans is proved: of any bytes, what they tell as a segment is the document's, or refused; the table of four bits is tied to the program's text. No other condition. -/
import Derived.Test.YtfnaccmgmocolaaDoorRt
import Derived.Test.YtfnaccmgmocolaaDoorSs
namespace Go.Proofs.YtfnaccmgmocolaaDoor
namespace SegmentScans
open Go.ChangeShapes Go.WideShapes Go.ChangeAt Go.RowKit

theorem run_few : ∀ (cs : List (List Nat)) (s : Seg.St), s.ats.length = s.ops.length → (Seg.run s cs).ats.length = (Seg.run s cs).ops.length ∧ (Seg.run s cs).ops.length ≤ s.ops.length + cs.length
  | [], s, h => ⟨h, Nat.le_refl _⟩
  | c :: cs, s, h => by
    cases hs : s.shut
    · cases ht : Seg.take s c with
      | none => rw [Seg.run_stop ht]; exact ⟨h, Nat.le_add_right _ _⟩
      | some t =>
        have hl := take_len ht h
        have ih := run_few cs t hl.1
        rw [Seg.run_step hs ht]
        exact ⟨ih.1, by rw [List.length_cons]; omega⟩
    · rw [Seg.run_shut hs]
      exact ⟨h, Nat.le_add_right _ _⟩
theorem scan_few {bs : List Nat} {id : Nat} {s : Seg.St} (h : Seg.scan bs = some (id, s)) : s.ats.length = s.ops.length ∧ s.ops.length ≤ bs.length := by
  have hle := Frm.scan_le bs
  unfold Seg.scan at h
  generalize (Frm.scan bs).1 = ls at h hle
  cases ls with
  | nil => cases h
  | cons c cs =>
    rw [Seg.tell] at h
    split at h
    · obtain ⟨rfl, rfl⟩ := Prod.mk.inj (Option.some.inj h)
      have := run_few cs ⟨[], [], (Frm.fr c).length, false⟩ rfl
      rw [List.length_cons] at hle
      refine ⟨this.1, ?_⟩
      have h2 := this.2
      simp only [List.length_nil] at h2
      omega
    · cases h
/-- Whatever was told, it is told in one form. -/
theorem infoP_form (bs : List Nat) : ∃ (id n u : Nat) (s : Bool) (ops : List O) (ats : List Nat) (er : Nat), n ≤ bs.length ∧ ∀ w e w', InfoP (Seg.scan bs) w e w' → ∃ a1 c1 a2 c2, e = .returned (.tuple #[.agg (infoV id (.slice a1 n c1) (.slice a2 n c2) s u), .int .i64 (er : Int)]) ∧
    GL w' 23 a1 n (cellsO ops) ∧ GL w' 1 a2 n (cellsN ats) ∧ Below w.heap.size w w' := by
  cases hsc : Seg.scan bs with
  | none =>
    refine ⟨0, 0, 0, false, [], [], 5, Nat.zero_le _, fun w e w' h => ?_⟩
    rcases h with ⟨_, h1, h2⟩ | ⟨_, _, _, _, _, _, h0, _⟩
    · exact ⟨none, 0, none, 0, h1, ⟨rfl, .inl rfl⟩, ⟨rfl, .inl rfl⟩, h2⟩
    · cases h0
  | some p =>
    obtain ⟨id, s⟩ := p
    have hf := scan_few hsc
    refine ⟨id, s.ops.length, s.used, s.shut, s.ops, s.ats, 0, hf.2, fun w e w' h => ?_⟩
    rcases h with ⟨h0, _⟩ | ⟨id', s', a1, c1, a2, c2, h0, he, ho, ha, hb⟩
    · cases h0
    · obtain ⟨rfl, rfl⟩ := Prod.mk.inj (Option.some.inj h0)
      rw [hf.1] at he ha
      exact ⟨a1, c1, a2, c2, he, ho.gl, ha.gl, hb⟩

/-- What both tell, in memory. -/
structure Tw (W : World) (g g' id n u : Nat) (s : Bool) (a1 a2 b1 b2 : Option Addr) (c1 c2 d1 d2 : Nat) (ops : List O) (ats : List Nat) : Prop where
  x : Blk W g 44 (infoV id (.slice a1 n c1) (.slice a2 n c2) s u)
  y : Blk W g' 47 (infoV id (.slice b1 n d1) (.slice b2 n d2) s u)
  xo : GL W 23 a1 n (cellsO ops)
  xa : GL W 1 a2 n (cellsN ats)
  yo : GL W 23 b1 n (cellsO ops)
  ya : GL W 1 b2 n (cellsN ats)
theorem Tw.below {W W' : World} {g g' id n u : Nat} {s : Bool} {a1 a2 b1 b2 : Option Addr} {c1 c2 d1 d2 : Nat} {ops : List O} {ats : List Nat} (h : Tw W g g' id n u s a1 a2 b1 b2 c1 c2 d1 d2 ops ats) (hb : Below W.heap.size W W') : Tw W' g g' id n u s a1 a2 b1 b2 c1 c2 d1 d2 ops ats :=
  ⟨h.x.below hb, h.y.below hb, h.xo.below hb, h.xa.below hb, h.yo.below hb, h.ya.below hb⟩

set_option maxHeartbeats 2000000 in
theorem walk_big (a : Option Addr) (len cap : Nat) (w : World) (hT : Tab w) (hbig : 3000 < len) (hmax : len ≤ 9223372036854775807) :
    Calls Tryd.prog 4 #[.slice a len cap] w fun e w' => e = .returned (.bool true) ∧ Below w.heap.size w w' := by
  have HA := Lib.hid (alive_any w hT)
  clear hT
  go_enter Tryd.func4, Tryd.ntmps4
  go_wp2_with fail
  refine HA.out.mono ?_
  rintro e w1 ⟨rfl, hb1⟩
  have HB1 := Lib.hid hb1
  clear hb1 HA
  go_wp2_with fail
  go_ret
  exact ⟨rfl, HB1.out⟩

set_option maxHeartbeats 8000000 in
set_option maxRecDepth 100000 in
theorem walk (a : Option Addr) (len cap : Nat) (bs : List Nat) (w : World) (hT : Tab w) (hX : In w a len cap bs) :
    Calls Tryd.prog 4 #[.slice a len cap] w fun e w' => e = .returned (.bool true) ∧ Below w.heap.size w w' := by
  by_cases hbig : 3000 < len
  · exact walk_big a len cap w hT hbig hX.max
  have HA := Lib.hid (alive_any w hT)
  have HT := Lib.hid hT
  have HX := Lib.hid hX
  obtain ⟨id, n, u, s, ops, ats, er, hn, hform⟩ := infoP_form bs
  rw [hX.row.size] at hn
  have HFM := Lib.hid hform
  clear hT hX hform
  go_enter Tryd.func4, Tryd.ntmps4
  go_wp2_with fail
  refine HA.out.mono ?_
  rintro e w1 ⟨rfl, hb1⟩
  have HX1 := Lib.hid (HX.out.below hb1)
  have HT1 := Lib.hid (HT.out.below hb1)
  have HB1 := Lib.hid hb1
  clear hb1 HA HX HT
  go_wp2_with fail
  refine (sscan_any a len cap bs w1 HT1.out HX1.out.row HX1.out.nil HX1.out.le (by omega)).mono ?_
  intro e w2 hq
  obtain ⟨a1, c1, a2, c2, rfl, h1, h2, hb2⟩ := HFM.out _ _ _ hq
  have HO1 := Lib.hid h1
  have HO2 := Lib.hid h2
  have HX2 := Lib.hid (HX1.out.below hb2)
  have HB2 := Lib.hid (HB1.out.trans (hb2.mono HB1.out.size))
  clear hq h1 h2 hb2 HX1 HT1 HB1
  go_wp2_with (first | (refine wpList_run rfl (exec_ialloc44 rfl) ?_) | (refine wpList_istop44 rfl ?_))
  refine ⟨?_⟩
  refine wpList_void rfl rfl (exec_istore44 (id := 0) (id2 := id) (a1 := a1) (n1 := n) (c1 := c1) (a2 := a2) (n2 := n) (c2 := c2) (s2 := s) (u2 := u) (u := 0) rfl rfl rfl (Blk.new w2 44 infoZ)) ?_
  have hlo := ilaid_old w2 infoZ (infoV id (.slice a1 n c1) (.slice a2 n c2) s u)
  have HXX := Lib.hid (ilaid_blk w2 infoZ (infoV id (.slice a1 n c1) (.slice a2 n c2) s u))
  have HO13 := Lib.hid (HO1.out.below hlo)
  have HO23 := Lib.hid (HO2.out.below hlo)
  have HX3 := Lib.hid (HX2.out.below hlo)
  have HB3 := Lib.hid (HB2.out.trans (hlo.mono HB2.out.size))
  clear hlo HO1 HO2 HX2 HB2
  generalize (w2.alloc (.cells infoZ 44)).setRow w2.heap.size (infoV id (.slice a1 n c1) (.slice a2 n c2) s u) = w3 at HXX HO13 HO23 HX3 HB3
  generalize w2.heap.size = g3 at HXX
  go_wp2_with fail
  refine (rsscan_any a len cap bs w3 HX3.out.row HX3.out.nil HX3.out.le (by omega)).mono ?_
  intro e w4 hq
  obtain ⟨b1, d1, b2, d2, rfl, h1, h2, hb4⟩ := HFM.out _ _ _ hq
  have HP1 := Lib.hid h1
  have HP2 := Lib.hid h2
  have HXX4 := Lib.hid (HXX.out.below hb4)
  have HO14 := Lib.hid (HO13.out.below hb4)
  have HO24 := Lib.hid (HO23.out.below hb4)
  have HB4 := Lib.hid (HB3.out.trans (hb4.mono HB3.out.size))
  clear hq h1 h2 hb4 HX3 HB3 HXX HO13 HO23
  go_wp2_with (first | (refine wpList_run rfl (exec_ialloc47 rfl) ?_) | (refine wpList_istop47 rfl ?_))
  refine ⟨?_⟩
  refine wpList_void rfl rfl (exec_istore47 (id := 0) (id2 := id) (a1 := b1) (n1 := n) (c1 := d1) (a2 := b2) (n2 := n) (c2 := d2) (s2 := s) (u2 := u) (u := 0) rfl rfl rfl (Blk.new w4 47 infoZ)) ?_
  have hlo := ilaid47_old w4 infoZ (infoV id (.slice b1 n d1) (.slice b2 n d2) s u)
  have HTW : Hid (Tw _ g3 w4.heap.size id n u s a1 a2 b1 b2 c1 c2 d1 d2 ops ats) := Lib.hid ⟨HXX4.out.below hlo, (Blk.new w4 47 infoZ).row (ds := infoV id (.slice b1 n d1) (.slice b2 n d2) s u), HO14.out.below hlo, HO24.out.below hlo, HP1.out.below hlo, HP2.out.below hlo⟩
  have HB5 := Lib.hid (HB4.out.trans (hlo.mono HB4.out.size))
  clear hlo HXX4 HO14 HO24 HP1 HP2 HB4
  generalize (w4.alloc (.cells infoZ 47)).setRow w4.heap.size (infoV id (.slice b1 n d1) (.slice b2 n d2) s u) = w5 at HTW HB5
  generalize w4.heap.size = g5 at HTW
  go_upto_region 10 with fail
  refine wp_region_held_drew (S := fun w' => Tw w' g3 g5 id n u s a1 a2 b1 b2 c1 c2 d1 d2 ops ats ∧ Below w5.heap.size w5 w') (by kernel_rfl) ⟨HTW.out.below (drew_below _), drew_below _⟩ (fun hS => ?_)
  refine held_take 0 22 (.agg (infoV id (.slice a1 n c1) (.slice a2 n c2) s u)) rfl rfl (by kernel_rfl) (by kernel_rfl) (by kernel_rfl) (fun _ _ _ h => h) (by kernel_rfl) (fun _ h => exec_iload44 rfl rfl h.1.x) hS ?_
  simp only [Act.put, List.setIfInBounds_toArray, List.set_cons_zero, List.set_cons_succ]
  refine held_take 2 24 (.agg (infoV id (.slice b1 n d1) (.slice b2 n d2) s u)) rfl rfl (by kernel_rfl) (by kernel_rfl) (by kernel_rfl) (fun _ _ _ h => h) (by kernel_rfl) (fun _ h => exec_iload47 rfl rfl h.1.y) hS ?_
  simp only [Act.put, List.setIfInBounds_toArray, List.set_cons_zero, List.set_cons_succ]
  refine held_callP 1 23 19 #[(.agg (infoV id (.slice a1 n c1) (.slice a2 n c2) s u))] rfl (by kernel_rfl) rfl (by kernel_rfl) (by kernel_rfl) (ours_any _ _ _ _ _ _ _ _ _ _) (fun e w101 hP => ?_)
  obtain ⟨rfl, hb1⟩ := hP
  refine ⟨_, rfl, ⟨hS.1.below hb1, hS.2.trans (hb1.mono hS.2.size)⟩, fun hS => ?_⟩
  clear hb1
  simp only [Act.put, List.setIfInBounds_toArray, List.set_cons_zero, List.set_cons_succ]
  refine held_callP 3 25 18 #[(.agg (infoV id (.slice a1 n c1) (.slice a2 n c2) s u)), (.agg (infoV id (.slice b1 n d1) (.slice b2 n d2) s u))] rfl (by kernel_rfl) rfl (by kernel_rfl) (by kernel_rfl) (same_any id n n u s a1 a2 b1 b2 c1 c2 d1 d2 ops ats _ (by omega) (by omega) hS.1.xo hS.1.xa hS.1.yo hS.1.ya) (fun e w103 hP => ?_)
  obtain ⟨rfl, hb3⟩ := hP
  refine ⟨_, rfl, ⟨hS.1.below hb3, hS.2.trans (hb3.mono hS.2.size)⟩, fun hS => ?_⟩
  clear hb3
  simp only [Act.put, List.setIfInBounds_toArray, List.set_cons_zero, List.set_cons_succ]
  refine held_take 4 26 (.bool true) rfl rfl (by kernel_rfl) (by kernel_rfl) (by kernel_rfl) (fun _ _ _ h => h) (by kernel_rfl) (fun _ _ => rfl) hS ?_
  simp only [Act.put, List.setIfInBounds_toArray, List.set_cons_zero, List.set_cons_succ]
  refine held_take 5 27 (.int .i64 (er : Int)) rfl rfl (by kernel_rfl) (by kernel_rfl) (by kernel_rfl) (fun _ _ _ h => h) (by kernel_rfl) (fun _ _ => rfl) hS ?_
  simp only [Act.put, List.setIfInBounds_toArray, List.set_cons_zero, List.set_cons_succ]
  refine held_take 6 28 (.int .i64 (er : Int)) rfl rfl (by kernel_rfl) (by kernel_rfl) (by kernel_rfl) (fun _ _ _ h => h) (by kernel_rfl) (fun _ _ => rfl) hS ?_
  simp only [Act.put, List.setIfInBounds_toArray, List.set_cons_zero, List.set_cons_succ]
  refine held_take 7 29 (.bool true) rfl rfl (by kernel_rfl) (by kernel_rfl) (by kernel_rfl) (fun _ _ _ h => h) (by kernel_rfl) (fun _ _ => exec_eqlI trivial rfl rfl rfl (by simp)) hS ?_
  simp only [Act.put, List.setIfInBounds_toArray, List.set_cons_zero, List.set_cons_succ]
  refine held_take 8 30 (.bool true) rfl rfl (by kernel_rfl) (by kernel_rfl) (by kernel_rfl) (fun _ _ _ h => h) (by kernel_rfl) (fun _ _ => rfl) hS ?_
  simp only [Act.put, List.setIfInBounds_toArray, List.set_cons_zero, List.set_cons_succ]
  refine held_take 9 2 (.bool true) rfl rfl (by kernel_rfl) (by kernel_rfl) (by kernel_rfl) (fun _ _ _ h => h) (by kernel_rfl) (fun _ _ => rfl) hS ?_
  simp only [Act.put, List.setIfInBounds_toArray, List.set_cons_zero, List.set_cons_succ]
  refine wpAnyH_done (by kernel_rfl) ?_ _
  have HEND := Lib.hid (HB5.out.trans (hS.2.mono HB5.out.size))
  clear hS
  go_wp2_with fail
  go_ret
  exact ⟨rfl, HEND.out⟩

set_option maxRecDepth 100000 in
theorem lifted (os : Os) (started : os.Started) (H : Type) (enc : TypeId × Value → H) :
    ReturnsInHanded {} Tryd.checked os 4 .any (fun w args => (Rows.segmentScansSpec.pre enc Tryd.prog Tryd.f4 [] false w args ∧ laidMetH Tryd.prog laid1 w) ∧ sizedMet enc Tryd.prog Tryd.f4 (OpenSpec.ofChange Rows.segmentScansSpec) false w args)
      (Rows.segmentScansSpec.post enc Tryd.prog Tryd.f4 false true false false) := by
  refine returnsInHanded_of_change_and (C := Tryd.checked) (X := fun w _ => laidMetH Tryd.prog laid1 w) (fun _ _ _ hh h => h.of_heap hh) own started (by kernel_rfl) Tryd.func4
    (ChangeSpec.witness_shaped (enc := enc) (C := Tryd.checked) (os := os) (X := fun w _ => laidMetH Tryd.prog laid1 w) false (World.doorLaid Tryd.prog 914 os) #[.slice none 0 0] 8 rfl (World.shaped_of_RefB (by kernel_rfl) (by kernel_rfl)) (by kernel_rfl) (by kernel_rfl) (by kernel_rfl) (door_met os _)) ?_
  intro W base args ds gs before hval0 hW _ _ hL _
  have hval : ∀ (j : Nat) t v, Tryd.f4.params[j]? = some t → args[j]? = some v → Value.okWide Tryd.prog W .any base t v := hval0
  have hW' := hW
  obtain ⟨p, q, hA0, hV, rfl, hfz, hnd⟩ := hW
  have hA : DataW.TrodAll enc Tryd.prog W 0 (fun _ => true) true Tryd.f4.params.toList args.toList ds p := hA0
  rw [Tryd.params4] at hA hval
  obtain ⟨v0, d0, rfl, rfl, h0⟩ := trodAll_one hA
  obtain ⟨rfl, rfl⟩ := trodVars_none hV
  obtain ⟨a0, len0, cap0, rfl⟩ := okWide_slice Tryd.underlying31 (hval 0 31 v0 rfl rfl)
  have lt0 : ∀ x ∈ p, x.block < W.heap.size := by obtain ⟨m, hm⟩ := h0; exact DataW.trod_lt m _ _ _ hm
  obtain ⟨l0, x0⟩ := in_of h0
  clear hA0 hval0
  refine (walk a0 len0 cap0 l0 W (of_laid hL) x0).mono fun e W' ⟨he, bel⟩ => ?_
  subst he
  exact ⟨_, rfl, _, _, _, [], _, [], hW', trodAll_mk1 (shut_bool Tryd.underlying4 _), trodAll_mk1 (Below.trod laidOut (by kernel_rfl) (of_decide_eq_true (by kernel_rfl)) h0 bel lt0), rfl, bel.frame _, fun h => by cases h⟩

theorem row_holds : Rows.SegmentScansSaid :=
  OpenClaim.holds_of_wide 4 Tryd.f4 rfl rfl rfl rfl rfl rfl rfl ⟨rfl, rfl, rfl, rfl, rfl⟩ rfl rfl rfl rfl rfl (by kernel_rfl) Tryd.func4 (by kernel_rfl)
    (of_decide_eq_true (by kernel_rfl)) (by unfold Func.isWrapper; first | (rw [if_pos (by decide +kernel)]; kernel_rfl) | (rw [if_neg (by decide +kernel)]; exact ⟨rfl, rfl⟩))
    (fun os started H enc _ => lifted os started H enc)
end SegmentScans

theorem segmentScans_card : Rows.SegmentScansCardSaid :=
  Claim7.holds_tied_plain_at .later [] [.data] true (true, "5cb79ddcbf4508aa173619bff2636ccbe3431f194f34513c361fdadce8ffbb83") false
    SegmentScans.row_holds (fun _ h => by cases h) (by kernel_rfl) (fun _ h => by cases h) segmentScans_row_tie rfl ⟨rfl, rfl⟩ (by kernel_rfl) rfl
    (fun f fn hf hfn => by
      obtain rfl : f = 4 := Option.some.inj ((show Tryd.prog.funcNamed "trug/truglaw12.SegmentScans" = some 4 by kernel_rfl).symm.trans hf) |>.symm
      obtain rfl : fn = Tryd.f4 := (Option.some.inj (Tryd.func4.symm.trans hfn)).symm
      exact ⟨by kernel_rfl, fun j t ht => by
        rw [Tryd.params4] at ht
        have hm : t ∈ [31] := by simpa using Array.mem_of_getElem? ht
        have hall : ([31].all fun u => !Tryd.prog.wantsStandIn u) = true := by kernel_rfl
        exact (show Tryd.prog.wantsStandIn t = false by simpa using List.all_eq_true.1 hall t hm)⟩)
    (by kernel_rfl)
#print axioms segmentScans_card
end Go.Proofs.YtfnaccmgmocolaaDoor
