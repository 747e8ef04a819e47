/- SegmentNew is proved: of every number, a segment that was just begun tells it and nothing in it, sealed at once, too; whatever the number; the table of four bits is tied to the program's text. No other condition. -/
import Derived.Test.YtfnaccmgmocolaaDoorAl
import Derived.Test.YtfnaccmgmocolaaDoorLw
namespace Go.Proofs.YtfnaccmgmocolaaDoor
namespace SegmentNew
open Go.ChangeShapes Go.WideShapes Go.ChangeAt Go.RowKit

/-- What the law has in memory at its end. -/
structure Lm (W : World) (g6 g8 id h u : Nat) (a1 a2 a3 a4 : Option Addr) (c1 c2 c3 c4 : Nat) : Prop where
  x : Blk W g6 44 (infoV id (.slice a1 0 c1) (.slice a2 0 c2) false h)
  y : Blk W g8 44 (infoV id (.slice a3 0 c3) (.slice a4 0 c4) true u)

set_option maxHeartbeats 4000000 in
set_option maxRecDepth 100000 in
theorem walk (id : Nat) (w : World) (hT : Tab w) (hid : id < 4294967296) : Calls Tryd.prog 8 #[.int .u32 (id : Int)] w fun e w' => e = .returned (.bool true) ∧ Below w.heap.size w w' := by
  have HA := Lib.hid (alive_any w hT)
  have HT := Lib.hid hT
  clear hT
  go_enter Tryd.func8, Tryd.ntmps8
  go_wp2_with fail
  refine HA.out.mono ?_
  rintro e w1 ⟨rfl, hb1⟩
  have HB1 := Lib.hid hb1
  clear hb1 HA
  go_wp2_with fail
  refine (head_any id w1 (HT.out.below HB1.out) hid).mono ?_
  rintro e w2 ⟨ha, hc, rfl, hho, hhb⟩
  have HH := Lib.hid (hho.mono HB1.out.size)
  have HB2 := Lib.hid (HB1.out.trans (hhb.mono HB1.out.size))
  have HHS : Hid (∀ c ∈ Seg.headB id, c < 256) := Lib.hid (Frm.fr_lt (Seg.pair_lt 1 id))
  have hhl := Seg.fr_pair_le (k := 1) (n := id) (by omega) (by omega)
  have hhp := Frm.fr_pos (Seg.pairB 1 id)
  change (Seg.headB id).length ≤ 40 at hhl
  change 5 ≤ (Seg.headB id).length at hhp
  clear hho hhb HB1
  go_wp2_with fail
  refine (foot_ok 0 w2 (HT.out.below HB2.out) (by omega)).mono ?_
  rintro e w3 ⟨fa, fc, rfl, hfo, hfb⟩
  have HF := Lib.hid (hfo.mono HB2.out.size)
  have HB3 := Lib.hid (HB2.out.trans (hfb.mono HB2.out.size))
  have HH3 := Lib.hid (HH.out.below hfb)
  have HFS := Lib.hid (Frm.fr_lt (Seg.pair_lt 3 0))
  have hfl := Seg.fr_pair_le (k := 3) (n := 0) (by omega) (by omega)
  have hsc1 := Seg.scan_new hid
  have hsc2 : Seg.scan (Seg.headB id ++ Frm.fr (Seg.pairB 3 0)) = some (id, ⟨[], [], (Seg.headB id).length + (Frm.fr (Seg.pairB 3 0)).length, true⟩) := by
    have := Seg.scan_foot (id := id) (l := []) hid (fun p hp => by cases hp) (by simp) []
    simpa [Seg.starts, Seg.footB, Seg.recs, Frm.frs] using this
  have HSC1 := Lib.hid hsc1
  have HSC2 := Lib.hid hsc2
  clear hfo hfb HB2 HH hsc1 hsc2
  generalize Seg.headB id = H at HHS hhl hhp HH3 HSC1 HSC2
  generalize Frm.fr (Seg.pairB 3 0) = F at HFS hfl HF HSC2
  generalize hHL : H.length = h at *
  generalize hFL : F.length = f at *
  go_wp2_with fail
  refine (sscan_any ha h hc H w3 (HT.out.below HB3.out) (HH3.out.row HHS.out) HH3.out.cap.2.2 HH3.out.cap.1 (by omega)).mono ?_
  intro e w4 hq
  obtain ⟨a1, c1, a2, c2, rfl, hl1, hl2, hb4⟩ := tells_of (n := 0) HSC1.out rfl rfl hq
  have HB4 := Lib.hid (HB3.out.trans (hb4.mono HB3.out.size))
  have HH4 := Lib.hid (HH3.out.below hb4)
  have HF4 := Lib.hid (HF.out.below hb4)
  clear hq hl1 hl2 hb4 HB3 HH3 HF
  simp only
  go_wp2_with (first | (refine wpList_run rfl (exec_ialloc44 rfl) ?_) | (refine wpList_istop44 rfl ?_))
  refine ⟨?_⟩
  refine wpList_void rfl rfl (exec_istore44 (id := 0) (id2 := id) (a1 := a1) (n1 := 0) (c1 := c1) (a2 := a2) (n2 := 0) (c2 := c2) (s2 := false) (u2 := h) (u := 0) rfl rfl rfl (Blk.new w4 44 infoZ)) ?_
  have hlo := ilaid_old w4 infoZ (infoV id (.slice a1 0 c1) (.slice a2 0 c2) false h)
  have HX5 := Lib.hid (ilaid_blk w4 infoZ (infoV id (.slice a1 0 c1) (.slice a2 0 c2) false h))
  have HB5 := Lib.hid (HB4.out.trans (hlo.mono HB4.out.size))
  have HH5 := Lib.hid ((HH4.out.row HHS.out).below hlo)
  have HF5 := Lib.hid ((HF4.out.row HFS.out).below hlo)
  have HHZ := Lib.hid HH4.out.cap.2.2
  have HFZ := Lib.hid HF4.out.cap.2.2
  clear hlo HB4 HH4 HF4
  generalize (w4.alloc (.cells infoZ 44)).setRow w4.heap.size (infoV id (.slice a1 0 c1) (.slice a2 0 c2) false h) = w5 at HX5 HB5 HH5 HF5
  generalize w4.heap.size = g6 at HX5
  go_wp2_with (at_builtin; first
    | (refine wpList_append_own_row w5 rfl _ _ rfl w5.heap.size none 0 0 [] rfl (own_nil _ _) ha h hc H rfl HH5.out HHZ.out (by omega) (Nat.le_refl _) ?_
       intro ca cc w6 ho6 hk6 _
       simp only [Nat.zero_add, List.nil_append] at ho6 ⊢
       have HO6 := Lib.hid ho6
       have HB6 := Lib.hid (hk6.below (B := w5.heap.size) (Nat.le_refl _) (fun i hi => by obtain ⟨ad, h1, h2⟩ := hi; cases h1))
       clear ho6 hk6)
    | (refine wpList_append_own_row w6 rfl _ _ rfl w5.heap.size ca h cc H rfl HO6.out fa f fc F rfl (HF5.out.below HB6.out) HFZ.out (by omega) HB6.out.size ?_
       intro da dc w7 ho7 hk7 _
       have HO7 := Lib.hid ho7
       have HB7 := Lib.hid (HB6.out.trans (hk7.below HB6.out.size (fun i hi => by obtain ⟨ad, h1, h2⟩ := hi; have := (HO6.out.lt ad h1).1; omega)))
       clear ho7 hk7))
  have HBS : Hid (∀ c ∈ H ++ F, c < 256) := Lib.hid (fun c hc => by
    rcases List.mem_append.1 hc with h | h
    · exact HHS.out c h
    · exact HFS.out c h)
  refine (sscan_any da (h + f) dc (H ++ F) w7 (((HT.out.below HB5.out)).below HB7.out) (HO7.out.row HBS.out) HO7.out.cap.2.2 HO7.out.cap.1 (by omega)).mono ?_
  intro e w8 hq
  obtain ⟨a3, c3, a4, c4, rfl, hl1, hl2, hb8⟩ := tells_of (n := 0) HSC2.out rfl rfl hq
  have HB8 := Lib.hid (HB7.out.trans (hb8.mono HB7.out.size))
  have HX8 := Lib.hid ((HX5.out.below HB7.out).below hb8)
  clear hq hl1 hl2 hb8 HB6 HB7 HO6 HO7 HX5
  simp only
  go_wp2_with (first | (refine wpList_run rfl (exec_ialloc44 rfl) ?_) | (refine wpList_istop44 rfl ?_))
  refine ⟨?_⟩
  refine wpList_void rfl rfl (exec_istore44 (id := 0) (id2 := id) (a1 := a3) (n1 := 0) (c1 := c3) (a2 := a4) (n2 := 0) (c2 := c4) (s2 := true) (u2 := h + f) (u := 0) rfl rfl rfl (Blk.new w8 44 infoZ)) ?_
  have hlo := ilaid_old w8 infoZ (infoV id (.slice a3 0 c3) (.slice a4 0 c4) true (h + f))
  have HB9 : Hid (Below w.heap.size w ((w8.alloc (.cells infoZ 44)).setRow w8.heap.size (infoV id (.slice a3 0 c3) (.slice a4 0 c4) true (h + f)))) := Lib.hid (HB5.out.trans ((HB8.out.trans (hlo.mono HB8.out.size)).mono HB5.out.size))
  have HLM : Hid (Lm ((w8.alloc (.cells infoZ 44)).setRow w8.heap.size (infoV id (.slice a3 0 c3) (.slice a4 0 c4) true (h + f))) g6 w8.heap.size id h (h + f) a1 a2 a3 a4 c1 c2 c3 c4) :=
    Lib.hid ⟨HX8.out.below hlo, ilaid_blk w8 infoZ _⟩
  clear hlo HX8 HB8 HB5
  generalize (w8.alloc (.cells infoZ 44)).setRow w8.heap.size (infoV id (.slice a3 0 c3) (.slice a4 0 c4) true (h + f)) = w9 at HB9 HLM
  generalize w8.heap.size = g8 at HLM
  have k0 : w9.cell? ⟨g6, 0, none⟩ = some (.int .u32 (id : Int)) := by rw [HLM.out.x.cell]; rfl
  have k1 : w9.cell? ⟨g6, 1, none⟩ = some (.slice a1 0 c1) := by rw [HLM.out.x.cell]; rfl
  have k3 : w9.cell? ⟨g6, 3, none⟩ = some (.bool false) := by rw [HLM.out.x.cell]; rfl
  have k4 : w9.cell? ⟨g6, 4, none⟩ = some (.int .i64 (h : Int)) := by rw [HLM.out.x.cell]; rfl
  have m0 : w9.cell? ⟨g8, 0, none⟩ = some (.int .u32 (id : Int)) := by rw [HLM.out.y.cell]; rfl
  have m1 : w9.cell? ⟨g8, 1, none⟩ = some (.slice a3 0 c3) := by rw [HLM.out.y.cell]; rfl
  have m3 : w9.cell? ⟨g8, 3, none⟩ = some (.bool true) := by rw [HLM.out.y.cell]; rfl
  have m4 : w9.cell? ⟨g8, 4, none⟩ = some (.int .i64 ((h : Int) + (f : Int))) := by rw [HLM.out.y.cell]; rfl
  clear HLM
  go_wp2_with fail
  go_ret
  exact ⟨rfl, HB9.out⟩

set_option maxRecDepth 100000 in
theorem lifted (os : Os) (started : os.Started) (H : Type) (enc : TypeId × Value → H) :
    ReturnsInHanded {} Tryd.checked os 8 .any (fun w args => (Rows.segmentNewSpec.pre enc Tryd.prog Tryd.f8 [] false w args ∧ laidMetH Tryd.prog laid1 w) ∧ sizedMet enc Tryd.prog Tryd.f8 (OpenSpec.ofChange Rows.segmentNewSpec) false w args)
      (Rows.segmentNewSpec.post enc Tryd.prog Tryd.f8 false true false false) := by
  refine returnsInHanded_of_change_and (C := Tryd.checked) (X := fun w _ => laidMetH Tryd.prog laid1 w) (fun _ _ _ hh h => h.of_heap hh) own started (by kernel_rfl) Tryd.func8
    (ChangeSpec.witness_shaped (enc := enc) (C := Tryd.checked) (os := os) (X := fun w _ => laidMetH Tryd.prog laid1 w) false (World.doorLaid Tryd.prog 914 os) #[.int .u32 0] 8 rfl (World.shaped_of_RefB (by kernel_rfl) (by kernel_rfl)) (by kernel_rfl) (by kernel_rfl) (by kernel_rfl) (door_met os _)) ?_
  intro W base args ds gs before hval0 hW _ _ hL _
  have hval : ∀ (j : Nat) t v, Tryd.f8.params[j]? = some t → args[j]? = some v → Value.okWide Tryd.prog W .any base t v := hval0
  have hW' := hW
  obtain ⟨p, q, hA0, hV, rfl, hfz, hnd⟩ := hW
  have hA : DataW.TrodAll enc Tryd.prog W 0 (fun _ => true) true Tryd.f8.params.toList args.toList ds p := hA0
  rw [Tryd.params8] at hA hval
  obtain ⟨v0, d0, rfl, rfl, h0⟩ := trodAll_one hA
  obtain ⟨rfl, rfl⟩ := trodVars_none hV
  obtain ⟨m0, rfl, rfl, rfl, w0⟩ := open_int Tryd.underlying22 (hval 0 22 v0 rfl rfl) h0
  have c0 := bounds_u32 w0
  obtain ⟨n0, rfl⟩ := Int.eq_ofNat_of_zero_le c0.1
  clear hA0 hval0
  refine (walk n0 W (of_laid hL) (by omega)).mono fun e W' ⟨he, bel⟩ => ?_
  subst he
  exact ⟨_, rfl, _, _, _, [], _, [], hW', trodAll_mk1 (shut_bool Tryd.underlying4 _), trodAll_mk1 (shut_int Tryd.underlying22 w0), rfl, bel.frame _, fun h => by cases h⟩

theorem row_holds : Rows.SegmentNewSaid :=
  OpenClaim.holds_of_wide 8 Tryd.f8 rfl rfl rfl rfl rfl rfl rfl ⟨rfl, rfl, rfl, rfl, rfl⟩ rfl rfl rfl rfl rfl (by kernel_rfl) Tryd.func8 (by kernel_rfl)
    (of_decide_eq_true (by kernel_rfl)) (by unfold Func.isWrapper; first | (rw [if_pos (by decide +kernel)]; kernel_rfl) | (rw [if_neg (by decide +kernel)]; exact ⟨rfl, rfl⟩))
    (fun os started H enc _ => lifted os started H enc)
end SegmentNew

theorem segmentNew_card : Rows.SegmentNewCardSaid :=
  Claim7.holds_tied_plain_at .later [] [.data] true (true, "5cb79ddcbf4508aa173619bff2636ccbe3431f194f34513c361fdadce8ffbb83") false
    SegmentNew.row_holds (fun _ h => by cases h) (by kernel_rfl) (fun _ h => by cases h) segmentNew_row_tie rfl ⟨rfl, rfl⟩ (by kernel_rfl) rfl
    (fun f fn hf hfn => by
      obtain rfl : f = 8 := Option.some.inj ((show Tryd.prog.funcNamed "trug/truglaw12.SegmentNew" = some 8 by kernel_rfl).symm.trans hf) |>.symm
      obtain rfl : fn = Tryd.f8 := (Option.some.inj (Tryd.func8.symm.trans hfn)).symm
      exact ⟨by kernel_rfl, fun j t ht => by
        rw [Tryd.params8] at ht
        have hm : t ∈ [22] := by simpa using Array.mem_of_getElem? ht
        have hall : ([22].all fun u => !Tryd.prog.wantsStandIn u) = true := by kernel_rfl
        exact (show Tryd.prog.wantsStandIn t = false by simpa using List.all_eq_true.1 hall t hm)⟩)
    (by kernel_rfl)
#print axioms segmentNew_card
end Go.Proofs.YtfnaccmgmocolaaDoor
