import Derived.Test.YtnekpgmgnepdoaaGreatXba
namespace Go.Proofs.YtnekpgmgnepdoaaGreat.F
open Go.Proofs.YtnekpgmgnepdoaaGreat Go.Proofs.YtnekpgmgnepdoaaGreat.Fold
open Go.RowKit Go.Maps Fold
set_option maxRecDepth 100000 in
set_option maxHeartbeats 4000000 in
theorem view_any {a : Option Addr} {n cap : Nat} {l : List O} {w : World} (hl : OL w a n l) (hn : n < 50) (c : Nat) : Calls Tryz.prog 34 #[.slice a n cap, .int .u16 (c : Int)] w (ViewP (l.filter fun o => decide (o.c = c)) c w) := by
 obtain ⟨zo, ho⟩ : ∃ z, O.zero = z := ⟨_, rfl⟩
 have HO := Lib.hid ho
 have HOF := Lib.hid (fun (w' : World) (hb : Below w.heap.size w w') => ofcart_any (cap := cap) (hl.below hb) (by omega) c)
 have hmm := @run_makeMap Tryz.prog
 have hlen : (l.filter fun o => decide (o.c = c)).length ≤ n := by rw [← hl.len']; exact List.length_filter_le _ _
 obtain ⟨L, hL⟩ : ∃ L, (l.filter fun o => decide (o.c = c)) = L := ⟨_, rfl⟩
 rw [hL] at hlen HOF ⊢
 have HN : Hid (L.length < 50) := Lib.hid (by omega)
 clear ho hl hL hlen
 go_enter Tryz.func34, Tryz.ntmps34
 go_wp2_with fail
 have HB0 : Hid (Below w.heap.size w (w.alloc (.cells #[.int .u16 0, .slice none 0 0, .bool false, .int .u32 0] 55))) := Lib.hid (below_one _ _)
 have HR0 : Hid (Blk (w.alloc (.cells #[.int .u16 0, .slice none 0 0, .bool false, .int .u32 0] 55)) w.heap.size 55 (viewV 0 (.slice none 0 0) false 0)) := Lib.hid (Blk.new _ _ _)
 generalize w.alloc (.cells #[.int .u16 0, .slice none 0 0, .bool false, .int .u32 0] 55) = w0 at HB0 HR0
 have HG0 : Hid (w.heap.size ≤ w.heap.size) := Lib.hid (Nat.le_refl _)
 obtain ⟨r, hr⟩ : ∃ r, w.heap.size = r := ⟨_, rfl⟩
 have HRR := Lib.hid hr
 refine (HOF.out _ HB0.out).mono ?_
 rw [hr]
 clear hr
 rintro e w1 ⟨a1, cap1, rfl, ho1, hb1⟩
 have HO1 := Lib.hid ho1
 have HB1 := Lib.hid hb1
 clear ho1 hb1 HOF
 obtain ⟨N, hN⟩ : ∃ N, L.length = N := ⟨_, rfl⟩
 have HNN := Lib.hid hN
 rw [hN] at HO1 HN ⊢
 clear hN
 go_wp2_with fail
 clear hmm
 have HG1 : Hid (r < w1.heap.size) := Lib.hid (by have := HR0.out.lt; have := HB1.out.size; have := HRR.out; omega)
 have HP : Hid (VwP ((w1.alloc (.cells #[.int .u16 (c : Int), .slice none 0 0, .bool false, .int .u32 0] 55)).alloc (.map #[] 0)) r w1.heap.size (w1.heap.size + 1) a1 c L) := Lib.hid (vwp_new (by have h := HR0.out.below HB1.out; rw [HRR.out] at h; exact h) (by rw [HNN.out]; exact HO1.out.gl))
 have HB2 : Hid (Below w.heap.size w ((w1.alloc (.cells #[.int .u16 (c : Int), .slice none 0 0, .bool false, .int .u32 0] 55)).alloc (.map #[] 0))) := Lib.hid ((HB0.out.trans (HB1.out.mono HB0.out.size)).trans ((below_two' w1 _ _).mono (Nat.le_trans HB0.out.size HB1.out.size)))
 generalize (w1.alloc (.cells #[.int .u16 (c : Int), .slice none 0 0, .bool false, .int .u32 0] 55)).alloc (.map #[] 0) = w2 at HP HB2
 obtain ⟨v, hv⟩ : ∃ v, w1.heap.size = v := ⟨_, rfl⟩
 obtain ⟨m, hm⟩ : ∃ m, v + 1 = m := ⟨_, rfl⟩
 have HM := Lib.hid hm
 rw [hv, hm] at HP
 rw [hv] at HG1
 rw [hv, hm]
 have HOLT : Hid (∀ ad, a1 = some ad → ad.block < v) := Lib.hid (fun ad e => by rw [← hv]; exact (HO1.out.lt ad e).2)
 clear hv hm HO1 HB1 HB0 HR0 HG0
 refine (live_any (by have h := HP.out.ol; rw [HNN.out] at h; exact h) (by have := HN.out; omega)).mono ?_
 rintro e w3 ⟨gl, rfl, hlb, hgg, hb3⟩
 have HG3 : Hid (m < gl) := Lib.hid (by have := HP.out.mp.lt; omega)
 have HP3 := Lib.hid (HP.out.below hb3)
 have HV3 : Hid (Vs w3 r v m gl a1 c L 0 0 0 (fun _ => none)) := Lib.hid ⟨HP3.out.res, HP3.out.view, HP3.out.mp, Nat.le_refl _, fun _ _ => rfl, hlb, HP3.out.ol, by have := HG1.out; have := HM.out; have := HG3.out; omega, HOLT.out⟩
 have HB3 : Hid (Below w.heap.size w w3) := Lib.hid (HB2.out.trans (hb3.mono HB2.out.size))
 have hll : (L.map (liveB L)).length = N := by simp [HNN.out]
 rw [hll]
 clear hlb hgg hb3 hll HP HP3 HB2
 go_wp2_with fail
 have hN50 : N < 50 := HN.out
 go_loopw [22] (VwR w r v m gl a1 N c L) (fun u _ => N - (numI u).toNat)
 case atStart => exact ⟨0, 0, _, rfl, Nat.zero_le _, HV3, HB3⟩
 case round =>
  obtain ⟨k, cnt, f, rfl, hk, HS, HB⟩ := hrel
  clear HV3 HB3
  by_cases hlt : k < N
  ·obtain ⟨b, off, x, rfl, hx, hr⟩ := OL.at HS.out.ol (by rw [HNN.out]; exact hlt)
   have HX := Lib.hid hx
   have HR := Lib.hid hr
   obtain ⟨lv, hlv⟩ : ∃ lv, liveB L x = lv := ⟨_, rfl⟩
   have HLV := Lib.hid hlv
   have hcl : wr.cell? ⟨gl, k, none⟩ = some (.bool lv) := by rw [HS.out.lives.cell]; simp [hx, hlv]
   clear hx hr hlv
   go_wp2_with (first | (refine wpList_run rfl (exec_idxB (i := k) rfl rfl rfl rfl hlt) ?_) | (refine wpList_run rfl (exec_idxO (i := k) rfl rfl rfl rfl hlt) ?_) | (refine wpList_run rfl (exec_ldO rfl rfl HR.out) ?_) | (refine wpList_run rfl (exec_alloc33z HO.out rfl) ?_) | (refine wpList_stop33 rfl ?_))
   refine ⟨?_⟩
   refine wpList_void rfl rfl (exec_store33 (p := zo) (u := x) rfl rfl rfl (Blk.new wr 33 zo.arr)) ?_
   have H1 : Hid (Ow wr ((wr.alloc (.cells zo.arr 33)).setRow wr.heap.size x.arr) x) := Lib.hid ⟨olaid_blk wr zo x, olaid_old wr zo x⟩
   generalize (wr.alloc (.cells zo.arr 33)).setRow wr.heap.size x.arr = w4 at H1
   have HT := Lib.hid (HS.out.below H1.out.old)
   have ct : w4.cell? ⟨v, 3, none⟩ = some (.int .u32 (tkTo L k : Int)) := by rw [HT.out.view.cell]; rfl
   have cx := oc6 H1.out.one
   have ft : w4.frozen? ⟨v, 3, none⟩ = false := HT.out.view.frozen 3
   have c2 := oc2 H1.out.one
   have HTK : Hid (tkTo L (k + 1) = max (tkTo L k) x.t) := Lib.hid (tkTo_succ HX.out)
   have HT5 : Hid (Vs (w4.setCell ⟨v, 3, none⟩ (.int .u32 (max (tkTo L k : Int) (x.t : Int)))) r v m gl (some ⟨b, off, none⟩) c L k (tkTo L (k + 1)) cnt f) := Lib.hid (HT.out.tick _ (by rw [HTK.out]; omega))
   have HB4 : Hid (Below w.heap.size w w4) := Lib.hid (HB.out.trans (H1.out.old.mono HB.out.size))
   have HGV : Hid (w.heap.size ≤ v) := Lib.hid (by have := HRR.out; have := HG1.out; omega)
   have HB5 : Hid (Below w.heap.size w (w4.setCell ⟨v, 3, none⟩ (.int .u32 (max (tkTo L k : Int) (x.t : Int))))) := Lib.hid (HB4.out.trans ((Kept.setCell w4 ⟨v, 3, none⟩ _).below HB4.out.size (fun j e => by rw [e]; exact HGV.out)))
   cases lv
   ·have HE := Lib.hid (HT5.out.skip HX.out HLV.out)
    go_wp2_with fail
    go_roundw
    case rel => exact ⟨k + 1, cnt, f, by go_num, hlt, HE, HB5⟩
    case measure => simp [numI]; omega
   ·by_cases h4 : x.k = 4
    ·have q4 : ((x.k : Int) == 4) = true := by simp; omega
     have H4 := Lib.hid h4
     have fo : w4.frozen? ⟨v, 2, none⟩ = false := HT.out.view.frozen 2
     have co : w4.cell? ⟨v, 2, none⟩ = some (.bool (outTo L k)) := by rw [HT.out.view.cell]; rfl
     have HE := Lib.hid (HT5.out.out HX.out HLV.out h4)
     have HBE := Lib.hid (HB5.out.trans ((Kept.setCell (w4.setCell ⟨v, 3, none⟩ (.int .u32 (max (tkTo L k : Int) (x.t : Int)))) ⟨v, 2, none⟩ (.bool true)).below HB5.out.size (fun j e => by rw [e]; exact HGV.out)))
     clear h4
     go_wp2_with fail
     go_roundw
     case rel => exact ⟨k + 1, cnt, f, by go_num, hlt, HE, HBE⟩
     case measure => simp [numI]; omega
    ·have q4 : ((x.k : Int) == 4) = false := by simp; omega
     have H4 := Lib.hid h4
     have HP5 : Hid (Blk (w4.setCell ⟨v, 3, none⟩ (.int .u32 (max (tkTo L k : Int) (x.t : Int)))) wr.heap.size 33 x.arr) := Lib.hid (H1.out.one.kept (Kept.setCell w4 ⟨v, 3, none⟩ _) (fun e => by have := HS.out.view.lt; have e' : wr.heap.size = v := e; omega))
     have HPM : Hid (¬ wr.heap.size = m) := Lib.hid (fun e => by have := HS.out.mp.lt; omega)
     clear h4
     go_upto_region 9 with fail
     generalize w4.setCell ⟨v, 3, none⟩ (.int .u32 (max (tkTo L k : Int) (x.t : Int))) = w5 at HT5 HB5 HP5
     generalize wr.heap.size = p at HP5 HPM
     clear q4 c2 cx ct ft hcl HR HS HB HT H1 HB4
     obtain ⟨am, ham⟩ : ∃ am, (amTo L k x.i).getD Am.zero = am := ⟨_, rfl⟩
     have HAM := Lib.hid ham
     clear ham
     have HGM : Hid (w.heap.size ≤ m) := Lib.hid (by have := HGV.out; have := HM.out; omega)
     refine wp_region_held_drew (S := fun w' => Blk w' p 33 x.arr) (by kernel_rfl) (HP5.out.below (drew_below _)) (fun hS => ?_)
     refine held_tk 0 37 (.map (some m)) rfl rfl (by kernel_rfl) (fun _ _ _ h=>h) (fun _ _=>rfl) hS ?_;simp only [Act.put,ap1,ap2,ap3]
     refine held_tk 1 38 (.pointer (some ⟨p,4,none⟩)) rfl rfl (by kernel_rfl) (fun _ _ _ h=>h) (fun _ _=>(by kernel_rfl)) hS ?_;simp only [Act.put,ap1,ap2,ap3]
     refine held_tk 2 39 (.int .u16 (x.i : Int)) rfl rfl (by kernel_rfl) (fun _ _ _ h=>h) (fun _ h=>exec_cell rfl rfl (load_cell (by kernel_rfl) (oc4 h))) hS ?_;simp only [Act.put,ap1,ap2,ap3]
     refine held_tk 3 40 (.map (some m)) rfl rfl (by kernel_rfl) (fun _ _ _ h=>h) (fun _ _=>rfl) hS ?_;simp only [Act.put,ap1,ap2,ap3]
     refine held_tk 4 41 (.pointer (some ⟨p,4,none⟩)) rfl rfl (by kernel_rfl) (fun _ _ _ h=>h) (fun _ _=>(by kernel_rfl)) hS ?_;simp only [Act.put,ap1,ap2,ap3]
     refine held_tk 5 42 (.int .u16 (x.i : Int)) rfl rfl (by kernel_rfl) (fun _ _ _ h=>h) (fun _ h=>exec_cell rfl rfl (load_cell (by kernel_rfl) (oc4 h))) hS ?_;simp only [Act.put,ap1,ap2,ap3]
     refine held_tk 7 44 (.agg x.arr) rfl rfl (by kernel_rfl) (fun _ _ _ h=>h) (fun _ h=>exec_load33 (p:=x) rfl rfl h) hS ?_;simp only [Act.put,ap1,ap2,ap3]
     refine held_exec 6 43 (.agg am.arr) rfl rfl (by kernel_rfl) (by kernel_rfl) (exec_lookAm rfl rfl rfl (HT5.out.mp.below (drew_below _)) x.hi (HT5.out.val x.i x.hi) HAM.out) hS ?_;simp only [Act.put,ap1,ap2,ap3]
     refine held_callP 8 45 72 #[.agg am.arr,.agg x.arr] rfl (by kernel_rfl) rfl (by kernel_rfl) (by kernel_rfl) (with_any am x _) (fun e w6 hP=>?_)
     obtain ⟨rfl, hb6⟩ := hP
     have HT6 : Hid (Vs w6 r v m gl (some ⟨b, off, none⟩) c L k (tkTo L (k + 1)) cnt f) := Lib.hid ((HT5.out.below (drew_below _)).below hb6)
     have HB6 : Hid (Below w.heap.size w w6) := Lib.hid (HB5.out.drew.trans (hb6.mono HB5.out.size))
     refine ⟨_, rfl, hS.below hb6, fun hS => ?_⟩
     simp only [Act.put, ap1, ap2, ap3]
     obtain ⟨w7, hrun, hmp7, hk7⟩ := HT6.out.mp.put law31 und129 (by have := HT6.out.cnt; have := HN.out; omega) (v := .agg (am.with x).arr) (key31 x.hi)
     refine held_void 9 rfl rfl (by kernel_rfl) (by kernel_rfl) (exec_upd rfl rfl rfl rfl hrun) (hS.kept hk7 HPM.out) ?_
     obtain ⟨cnt', f', hv7⟩ := HT6.out.put HX.out HLV.out H4.out hk7 (by rw [HAM.out]; exact hmp7)
     have HV7 := Lib.hid hv7
     have HB7 : Hid (Below w.heap.size w w7) := Lib.hid (HB6.out.trans (hk7.below HB6.out.size (fun j e => by rw [e]; exact HGM.out)))
     clear hv7 hrun hmp7 hk7 hb6
     refine wpAnyH_done (by kernel_rfl) ?_ _
     go_wp2_with fail
     go_roundw
     case rel => exact ⟨k + 1, cnt', f', by go_num, hlt, HV7, HB7⟩
     case measure => simp [numI]; omega
  ·obtain rfl : k = N := by omega
   clear hlt hk
   go_wp2_with fail
   refine (keys_any _ _).mono ?_
   rintro e wk ⟨rfl, rfl⟩
   go_wp2_with fail
   have HSK : Hid (Vs (wr.alloc (.cells #[.map (some m)] 129)) r v m gl a1 c L k (tkTo L k) cnt f) := Lib.hid (HS.out.below (below_one wr _))
   have hck : (wr.alloc (.cells #[.map (some m)] 129)).cell? ⟨wr.heap.size, 0, none⟩ = some (.map (some m)) := by rw [(Blk.new wr 129 #[.map (some m)]).cell]; rfl
   have hsz : wr.heap.size < (wr.alloc (.cells #[.map (some m)] 129)).heap.size := by simp
   have HBK : Hid (Below w.heap.size w (wr.alloc (.cells #[.map (some m)] 129))) := Lib.hid (HB.out.trans ((below_one wr _).mono HB.out.size))
   have HKC := Lib.hid (sorted_any (by have := HS.out.cnt; omega) hsz hck HSK.out.mp)
   clear hck hsz HS HB
   generalize wr.alloc (.cells #[.map (some m)] 129) = wk at HSK HBK HKC
   refine HKC.out.mono ?_
   rintro e w8 ⟨ak, capk, ss, rfl, hup, hmem, hou, hb8⟩
   have HI : Hid (Items L ss) := Lib.hid ⟨hup, fun i => by
    rw [hmem i]
    constructor
    ·rintro ⟨h1, h2⟩
     have := HSK.out.val i h1
     rw [this] at h2
     rw [HNN.out]
     exact ⟨h1, by simpa using h2⟩
    ·rintro ⟨h1, h2⟩
     refine ⟨h1, ?_⟩
     rw [HSK.out.val i h1]
     rw [HNN.out] at h2
     simpa using h2⟩
   have HS8 := Lib.hid (HSK.out.below hb8)
   have HB8 : Hid (Below w.heap.size w w8) := Lib.hid (HBK.out.trans (hb8.mono HBK.out.size))
   obtain ⟨nk, hnk⟩ : ∃ nk, ss.length = nk := ⟨_, rfl⟩
   have HNK := Lib.hid hnk
   rw [hnk] at hou ⊢
   have HV8 : Hid (Vl w8 w8.heap.size r v m ak nk none 0 0 c L ss cnt f) := Lib.hid ⟨HS8.out.res, by rw [HNN.out]; exact HS8.out.view, HS8.out.mp, (ownG_of hou).gl, by simpa using ownG_nil _ _ _ _, ⟨HS8.out.apart.1, HS8.out.apart.2.1, HS8.out.mp.lt⟩, fun ad e => ⟨(hou.lt ad e).2, Nat.lt_of_lt_of_le HSK.out.mp.lt (hou.lt ad e).1⟩⟩
   have HVAL : Hid (∀ i, i < 65536 → f (litK i) = (amTo L L.length i).map fun x => .agg x.arr) := Lib.hid (fun i hi => by rw [HNN.out]; exact HS8.out.val i hi)
   have HB9 : Hid (w8.heap.size ≤ w8.heap.size) := Lib.hid (Nat.le_refl _)
   have HGV : Hid (w.heap.size ≤ v) := Lib.hid (by have := HRR.out; have := HG1.out; omega)
   have hnk63 : nk < 50 := by
    have h1 := keys_le HSK.out.mp ⟨List.nodup_iff_pairwise_ne.2 (hup.imp fun h => by omega), hmem⟩
    have := HSK.out.cnt
    omega
   clear hnk hup hmem hou hb8 HS8 HSK HBK HKC
   go_wp2_with fail
   obtain ⟨B, hB⟩ : ∃ B, w8.heap.size = B := ⟨_, rfl⟩
   have HWB : Hid (w.heap.size ≤ B) := Lib.hid (by rw [← hB]; exact HB8.out.size)
   rw [hB] at HV8 HB9
   have HBB : Hid (B ≤ w8.heap.size) := Lib.hid (by omega)
   clear hB HB9
   go_loopw [59] (VlR w B r v m ak nk c L ss cnt f) (fun u _ => nk - (numI u).toNat)
   case atStart => exact ⟨0, 0, none, rfl, Nat.zero_le _, HV8, HB8, HBB⟩
   case round =>
    obtain ⟨j, cap2, a2, rfl, hj, HV, HB, HBW⟩ := hrel
    clear HV8 HB8 HBB
    by_cases hlt : j < nk
    ·have hjss : j < ss.length := by rw [HNK.out]; exact hlt
     obtain ⟨it, hit⟩ : ∃ it, ss[j]? = some it := ⟨_, List.getElem?_eq_getElem hjss⟩
     have HIT := Lib.hid hit
     have HI6 : Hid (it < 65536) := Lib.hid ((HI.out.mem it).1 (List.mem_of_getElem? hit)).1
     obtain ⟨gk, ok, hak, hkc⟩ : ∃ b off, ak = some ⟨b, off, none⟩ ∧ wr.cell? ⟨b, off + j, none⟩ = some (.int .u16 (it : Int)) := by
      rcases HV.out.keys.cells with h0 | ⟨b, off, ha, hc⟩
      ·omega
      ·have := hc j [encK it] (by simp [ones, hit]) 0 (encK it) rfl
       rw [Nat.mul_one, Nat.add_zero] at this
       exact ⟨b, off, ha, this⟩
     subst hak
     clear hit
     go_upto_region 17 with fail
     clear hkc
     obtain ⟨am, ham⟩ : ∃ am, (amTo L L.length it).getD Am.zero = am := ⟨_, rfl⟩
     have HQ : Hid (qtyAt L it = am.qty) := Lib.hid (by unfold qtyAt; rw [ham])
     have HAM := Lib.hid ham
     have hl8 : wr.cell? ⟨v, 1, none⟩ = some (.slice a2 j cap2) := by rw [HV.out.view.cell]; rfl
     have HL8 := Lib.hid hl8
     clear ham hl8
     refine wp_region_held_drew (S := fun w' => MpF w' 31 m cnt f) (by kernel_rfl) (HV.out.mp.below (drew_below _)) (fun hS => ?_)
     refine held_tk 0 63 (.pointer (some ⟨v,1,none⟩)) rfl rfl (by kernel_rfl) (fun _ _ _ h=>h) (fun _ _=>(by kernel_rfl)) hS ?_;simp only [Act.put,ap1,ap2,ap3]
     refine held_tk 2 65 (.int .u16 (it : Int)) rfl rfl (by kernel_rfl) (fun _ _ _ h=>h) (fun _ _=>rfl) hS ?_;simp only [Act.put,ap1,ap2,ap3]
     refine held_tk 3 66 (.map (some m)) rfl rfl (by kernel_rfl) (fun _ _ _ h=>h) (fun _ _=>rfl) hS ?_;simp only [Act.put,ap1,ap2,ap3]
     refine held_tk 4 67 (.int .u16 (it : Int)) rfl rfl (by kernel_rfl) (fun _ _ _ h=>h) (fun _ _=>rfl) hS ?_;simp only [Act.put,ap1,ap2,ap3]
     refine held_tk 5 68 (.agg am.arr) rfl rfl (by kernel_rfl) (fun _ _ _ h=>h) (fun _ h=>exec_lookAm rfl rfl rfl h HI6.out (HVAL.out it HI6.out) HAM.out) hS ?_;simp only [Act.put,ap1,ap2,ap3]
     have HVD := Lib.hid (HV.out.below (drew_below wr))
     have HBD : Hid (Below w.heap.size w wr.drew) := Lib.hid HB.out.drew
     have HZD : Hid (B ≤ wr.drew.heap.size) := HBW
     refine wpAnyH_ready (rs := [1, 6]) (by kernel_rfl) (by simp) (br_exec 1 64 (.slice a2 j cap2) rfl rfl (by kernel_rfl) (exec_cell rfl rfl (load_cell (by kernel_rfl) HL8.out)) hS ?_ (br_callP 6 69 74 #[.agg am.arr] rfl rfl (by kernel_rfl) (by kernel_rfl) (qty_any am _) (fun e w6 hP => ?_) AllReadyH.nil))
     ·simp only [Act.put, ap1, ap2, ap3]
      refine held_callP 6 69 74 #[.agg am.arr] rfl (by kernel_rfl) rfl (by kernel_rfl) (by kernel_rfl) (qty_any am _) (fun e w6 hP=>?_)
      obtain ⟨rfl, hb6⟩ := hP
      have HVQ := Lib.hid (HVD.out.below hb6)
      have HBQ : Hid (Below w.heap.size w w6) := Lib.hid (HBD.out.trans (hb6.mono HBD.out.size))
      have HBZ : Hid (B ≤ w6.heap.size) := Lib.hid (Nat.le_trans HZD.out hb6.size)
      refine ⟨_, rfl, HVQ.out.mp, fun hS => ?_⟩
      simp only [Act.put, ap1, ap2, ap3]
      refine held_tk 7 70 (.agg #[.int .u16 (it : Int),.int .u32 (am.qty : Int)]) rfl rfl (by kernel_rfl) (fun _ _ _ h=>h) (fun _ _=>exec_bldLine (i:=it) (n:=am.qty) rfl rfl rfl) hS ?_;simp only [Act.put,ap1,ap2,ap3]
      refine held_exec 8 71 (.slice (some ⟨w6.heap.size,0,none⟩) 1 1) rfl rfl (by kernel_rfl) (by kernel_rfl) (exec_bsLine (cs:=[.int .u16 (it : Int),.int .u32 (am.qty : Int)]) rfl rfl rfl) (hS.below (below_one w6 _)) ?_;simp only [Act.put,ap1,ap2,ap3]
      have HVX := Lib.hid (HVQ.out.below (below_one w6 (.cells #[.int .u16 (it : Int), .int .u32 (am.qty : Int)] 86)))
      have HBX : Hid (Below w.heap.size w (w6.alloc (.cells #[.int .u16 (it : Int), .int .u32 (am.qty : Int)] 86))) := Lib.hid (HBQ.out.trans ((below_one w6 _).mono HBQ.out.size))
      have HBS : Hid (B ≤ (w6.alloc (.cells #[.int .u16 (it : Int), .int .u32 (am.qty : Int)] 86)).heap.size) := Lib.hid (by have := HBZ.out; simp; omega)
      have HGB : Hid (Blk (w6.alloc (.cells #[.int .u16 (it : Int), .int .u32 (am.qty : Int)] 86)) w6.heap.size 86 #[.int .u16 (it : Int), .int .u32 (am.qty : Int)]) := Lib.hid (Blk.new w6 86 _)
      generalize w6.alloc (.cells #[.int .u16 (it : Int), .int .u32 (am.qty : Int)] 86) = wx at HVX HBX HBS HGB
      generalize w6.heap.size = g8 at HGB
      refine held_appendG 9 72 53 86 2 8 info86 und53 rfl (by decide) (by decide) rfl rfl (by kernel_rfl) (by kernel_rfl) rfl rfl rfl HVX.out.own HGB.out rfl (by intro u hu; simp only [List.mem_cons,List.not_mem_nil,or_false] at hu; rcases hu with rfl | rfl <;> rfl) (by omega) HBS.out (fun a3 cap3 w9 ho9 hk9 hl9=>?_)
      have hno : ∀ g, g < B → ¬ At a2 g := fun g hg ⟨ad, e, e2⟩ => by have := (HVX.out.own.lt ad e).1; omega
      have hlt3 := HVX.out.lt
      have hm9 : MpF w9 31 m cnt f := HVX.out.mp.kept hk9 (hno _ (by omega))
      have hv9 := HVX.out.view.kept hk9 (hno _ (by omega))
      have hb9 : Below w.heap.size w w9 := HBX.out.trans (hk9.below HBX.out.size (fun i e => by obtain ⟨ad, e1, e2⟩ := e; have := (HVX.out.own.lt ad e1).1; have := HWB.out; omega))
      have hks : Kept (fun i => i = v) w9 (w9.setCell ⟨v, 1, none⟩ (.slice a3 (j + 1) cap3)) := Kept.setCell w9 ⟨v, 1, none⟩ _
      have HVN := Lib.hid (HVX.out.more (i := it) HIT.out hk9 (by have e : lineCs L it = [.int .u16 (it : Int), .int .u32 (am.qty : Int)] := (by unfold lineCs; rw [HQ.out]); rw [e]; exact ho9))
      have HBN : Hid (Below w.heap.size w (w9.setCell ⟨v, 1, none⟩ (.slice a3 (j + 1) cap3))) := Lib.hid (hb9.trans (hks.below hb9.size (fun i e => by rw [e]; exact HGV.out)))
      have HBN2 : Hid (B ≤ (w9.setCell ⟨v, 1, none⟩ (.slice a3 (j + 1) cap3)).heap.size) := Lib.hid (Nat.le_trans HBS.out (Nat.le_trans hk9.size hks.size))
      have hm10 : MpF (w9.setCell ⟨v, 1, none⟩ (.slice a3 (j + 1) cap3)) 31 m cnt f := HVN.out.mp
      refine ⟨hm9, ?_⟩
      simp only [Act.put, ap1, ap2, ap3]
      refine held_exec 10 73 (.pointer (some ⟨v,1,none⟩)) rfl rfl (by kernel_rfl) (by kernel_rfl) (by kernel_rfl) hm9 ?_;simp only [Act.put,ap1,ap2,ap3]
      refine held_void 11 rfl rfl (by kernel_rfl) (by kernel_rfl) (exec_stSl rfl rfl rfl hv9 (by show 1 < 4; omega)) hm10 ?_
      clear hno hlt3 hm9 hv9 hb9 hks hm10 ho9 hk9 hl9
      refine wpAnyH_done (by kernel_rfl) ?_ _
      go_wp2_with fail
      go_roundw
      case rel => exact ⟨j + 1, cap3, a3, by go_num, hlt, HVN, HBN, HBN2⟩
      case measure => simp [numI]; omega
     ·obtain ⟨rfl, hb6⟩ := hP
      have HVQ := Lib.hid (HVD.out.below hb6)
      have HBQ : Hid (Below w.heap.size w w6) := Lib.hid (HBD.out.trans (hb6.mono HBD.out.size))
      have HBZ : Hid (B ≤ w6.heap.size) := Lib.hid (Nat.le_trans HZD.out hb6.size)
      have hl6 : w6.cell? ⟨v, 1, none⟩ = some (.slice a2 j cap2) := by rw [HVQ.out.view.cell]; rfl
      have HL6 := Lib.hid hl6
      have HL7 : Hid ((w6.alloc (.cells #[.int .u16 (it : Int), .int .u32 (am.qty : Int)] 86)).cell? ⟨v, 1, none⟩ = some (.slice a2 j cap2)) := Lib.hid (by rw [(HVQ.out.view.below (below_one w6 _)).cell]; rfl)
      clear hl6
      refine ⟨_, rfl, HVQ.out.mp, fun hS => ?_⟩
      simp only [Act.put, ap1, ap2, ap3]
      refine held_tk 7 70 (.agg #[.int .u16 (it : Int),.int .u32 (am.qty : Int)]) rfl rfl (by kernel_rfl) (fun _ _ _ h=>h) (fun _ _=>exec_bldLine (i:=it) (n:=am.qty) rfl rfl rfl) hS ?_;simp only [Act.put,ap1,ap2,ap3]
      refine wpAnyH_ready (rs := [1, 8]) (by kernel_rfl) (by simp) (br_exec 1 64 (.slice a2 j cap2) rfl rfl (by kernel_rfl) (exec_cell rfl rfl (load_cell (by kernel_rfl) HL6.out)) hS ?_ (br_exec 8 71 (.slice (some ⟨w6.heap.size, 0, none⟩) 1 1) rfl rfl (by kernel_rfl) (exec_bsLine (cs := [.int .u16 (it : Int), .int .u32 (am.qty : Int)]) rfl rfl rfl) (hS.below (below_one w6 _)) ?_ AllReadyH.nil))
      ·simp only [Act.put, ap1, ap2, ap3]
       refine held_exec 8 71 (.slice (some ⟨w6.heap.size,0,none⟩) 1 1) rfl rfl (by kernel_rfl) (by kernel_rfl) (exec_bsLine (cs:=[.int .u16 (it : Int),.int .u32 (am.qty : Int)]) rfl rfl rfl) (hS.below (below_one w6 _)) ?_;simp only [Act.put,ap1,ap2,ap3]
       have HVX := Lib.hid (HVQ.out.below (below_one w6 (.cells #[.int .u16 (it : Int), .int .u32 (am.qty : Int)] 86)))
       have HBX : Hid (Below w.heap.size w (w6.alloc (.cells #[.int .u16 (it : Int), .int .u32 (am.qty : Int)] 86))) := Lib.hid (HBQ.out.trans ((below_one w6 _).mono HBQ.out.size))
       have HBS : Hid (B ≤ (w6.alloc (.cells #[.int .u16 (it : Int), .int .u32 (am.qty : Int)] 86)).heap.size) := Lib.hid (by have := HBZ.out; simp; omega)
       have HGB : Hid (Blk (w6.alloc (.cells #[.int .u16 (it : Int), .int .u32 (am.qty : Int)] 86)) w6.heap.size 86 #[.int .u16 (it : Int), .int .u32 (am.qty : Int)]) := Lib.hid (Blk.new w6 86 _)
       generalize w6.alloc (.cells #[.int .u16 (it : Int), .int .u32 (am.qty : Int)] 86) = wx at HVX HBX HBS HGB
       generalize w6.heap.size = g8 at HGB
       refine held_appendG 9 72 53 86 2 8 info86 und53 rfl (by decide) (by decide) rfl rfl (by kernel_rfl) (by kernel_rfl) rfl rfl rfl HVX.out.own HGB.out rfl (by intro u hu; simp only [List.mem_cons,List.not_mem_nil,or_false] at hu; rcases hu with rfl | rfl <;> rfl) (by omega) HBS.out (fun a3 cap3 w9 ho9 hk9 hl9=>?_)
       have hno : ∀ g, g < B → ¬ At a2 g := fun g hg ⟨ad, e, e2⟩ => by have := (HVX.out.own.lt ad e).1; omega
       have hlt3 := HVX.out.lt
       have hm9 : MpF w9 31 m cnt f := HVX.out.mp.kept hk9 (hno _ (by omega))
       have hv9 := HVX.out.view.kept hk9 (hno _ (by omega))
       have hb9 : Below w.heap.size w w9 := HBX.out.trans (hk9.below HBX.out.size (fun i e => by obtain ⟨ad, e1, e2⟩ := e; have := (HVX.out.own.lt ad e1).1; have := HWB.out; omega))
       have hks : Kept (fun i => i = v) w9 (w9.setCell ⟨v, 1, none⟩ (.slice a3 (j + 1) cap3)) := Kept.setCell w9 ⟨v, 1, none⟩ _
       have HVN := Lib.hid (HVX.out.more (i := it) HIT.out hk9 (by have e : lineCs L it = [.int .u16 (it : Int), .int .u32 (am.qty : Int)] := (by unfold lineCs; rw [HQ.out]); rw [e]; exact ho9))
       have HBN : Hid (Below w.heap.size w (w9.setCell ⟨v, 1, none⟩ (.slice a3 (j + 1) cap3))) := Lib.hid (hb9.trans (hks.below hb9.size (fun i e => by rw [e]; exact HGV.out)))
       have HBN2 : Hid (B ≤ (w9.setCell ⟨v, 1, none⟩ (.slice a3 (j + 1) cap3)).heap.size) := Lib.hid (Nat.le_trans HBS.out (Nat.le_trans hk9.size hks.size))
       have hm10 : MpF (w9.setCell ⟨v, 1, none⟩ (.slice a3 (j + 1) cap3)) 31 m cnt f := HVN.out.mp
       refine ⟨hm9, ?_⟩
       simp only [Act.put, ap1, ap2, ap3]
       refine held_exec 10 73 (.pointer (some ⟨v,1,none⟩)) rfl rfl (by kernel_rfl) (by kernel_rfl) (by kernel_rfl) hm9 ?_;simp only [Act.put,ap1,ap2,ap3]
       refine held_void 11 rfl rfl (by kernel_rfl) (by kernel_rfl) (exec_stSl rfl rfl rfl hv9 (by show 1 < 4; omega)) hm10 ?_
       clear hno hlt3 hm9 hv9 hb9 hks hm10 ho9 hk9 hl9
       refine wpAnyH_done (by kernel_rfl) ?_ _
       go_wp2_with fail
       go_roundw
       case rel => exact ⟨j + 1, cap3, a3, by go_num, hlt, HVN, HBN, HBN2⟩
       case measure => simp [numI]; omega
      ·simp only [Act.put, ap1, ap2, ap3]
       refine held_exec 1 64 (.slice a2 j cap2) rfl rfl (by kernel_rfl) (by kernel_rfl) (exec_cell rfl rfl (load_cell (by kernel_rfl) HL7.out)) (hS.below (below_one w6 _)) ?_;simp only [Act.put,ap1,ap2,ap3]
       clear HL7
       have HVX := Lib.hid (HVQ.out.below (below_one w6 (.cells #[.int .u16 (it : Int), .int .u32 (am.qty : Int)] 86)))
       have HBX : Hid (Below w.heap.size w (w6.alloc (.cells #[.int .u16 (it : Int), .int .u32 (am.qty : Int)] 86))) := Lib.hid (HBQ.out.trans ((below_one w6 _).mono HBQ.out.size))
       have HBS : Hid (B ≤ (w6.alloc (.cells #[.int .u16 (it : Int), .int .u32 (am.qty : Int)] 86)).heap.size) := Lib.hid (by have := HBZ.out; simp; omega)
       have HGB : Hid (Blk (w6.alloc (.cells #[.int .u16 (it : Int), .int .u32 (am.qty : Int)] 86)) w6.heap.size 86 #[.int .u16 (it : Int), .int .u32 (am.qty : Int)]) := Lib.hid (Blk.new w6 86 _)
       generalize w6.alloc (.cells #[.int .u16 (it : Int), .int .u32 (am.qty : Int)] 86) = wx at HVX HBX HBS HGB
       generalize w6.heap.size = g8 at HGB
       refine held_appendG 9 72 53 86 2 8 info86 und53 rfl (by decide) (by decide) rfl rfl (by kernel_rfl) (by kernel_rfl) rfl rfl rfl HVX.out.own HGB.out rfl (by intro u hu; simp only [List.mem_cons,List.not_mem_nil,or_false] at hu; rcases hu with rfl | rfl <;> rfl) (by omega) HBS.out (fun a3 cap3 w9 ho9 hk9 hl9=>?_)
       have hno : ∀ g, g < B → ¬ At a2 g := fun g hg ⟨ad, e, e2⟩ => by have := (HVX.out.own.lt ad e).1; omega
       have hlt3 := HVX.out.lt
       have hm9 : MpF w9 31 m cnt f := HVX.out.mp.kept hk9 (hno _ (by omega))
       have hv9 := HVX.out.view.kept hk9 (hno _ (by omega))
       have hb9 : Below w.heap.size w w9 := HBX.out.trans (hk9.below HBX.out.size (fun i e => by obtain ⟨ad, e1, e2⟩ := e; have := (HVX.out.own.lt ad e1).1; have := HWB.out; omega))
       have hks : Kept (fun i => i = v) w9 (w9.setCell ⟨v, 1, none⟩ (.slice a3 (j + 1) cap3)) := Kept.setCell w9 ⟨v, 1, none⟩ _
       have HVN := Lib.hid (HVX.out.more (i := it) HIT.out hk9 (by have e : lineCs L it = [.int .u16 (it : Int), .int .u32 (am.qty : Int)] := (by unfold lineCs; rw [HQ.out]); rw [e]; exact ho9))
       have HBN : Hid (Below w.heap.size w (w9.setCell ⟨v, 1, none⟩ (.slice a3 (j + 1) cap3))) := Lib.hid (hb9.trans (hks.below hb9.size (fun i e => by rw [e]; exact HGV.out)))
       have HBN2 : Hid (B ≤ (w9.setCell ⟨v, 1, none⟩ (.slice a3 (j + 1) cap3)).heap.size) := Lib.hid (Nat.le_trans HBS.out (Nat.le_trans hk9.size hks.size))
       have hm10 : MpF (w9.setCell ⟨v, 1, none⟩ (.slice a3 (j + 1) cap3)) 31 m cnt f := HVN.out.mp
       refine ⟨hm9, ?_⟩
       simp only [Act.put, ap1, ap2, ap3]
       refine held_exec 10 73 (.pointer (some ⟨v,1,none⟩)) rfl rfl (by kernel_rfl) (by kernel_rfl) (by kernel_rfl) hm9 ?_;simp only [Act.put,ap1,ap2,ap3]
       refine held_void 11 rfl rfl (by kernel_rfl) (by kernel_rfl) (exec_stSl rfl rfl rfl hv9 (by show 1 < 4; omega)) hm10 ?_
       clear hno hlt3 hm9 hv9 hb9 hks hm10 ho9 hk9 hl9
       refine wpAnyH_done (by kernel_rfl) ?_ _
       go_wp2_with fail
       go_roundw
       case rel => exact ⟨j + 1, cap3, a3, by go_num, hlt, HVN, HBN, HBN2⟩
       case measure => simp [numI]; omega
    ·obtain rfl : j = nk := by omega
     go_wp2_with (refine wpList_stop55 rfl ?_)
     refine ⟨?_⟩
     refine wpList_run rfl (exec_load55 rfl rfl HV.out.view) ?_
     refine wpList_void rfl rfl (exec_store55 rfl rfl rfl HV.out.res) ?_
     have hkr := Kept.setRow wr r (viewV c (.slice a2 j cap2) (outTo L L.length) (tkTo L L.length))
     have HRB : Hid (Blk (wr.setRow r (viewV c (.slice a2 j cap2) (outTo L L.length) (tkTo L L.length))) r 55 (viewV c (.slice a2 j cap2) (outTo L L.length) (tkTo L L.length))) := Lib.hid (HV.out.res.row)
     have HE : Hid (ViewP L c w (.returned (.agg (viewV c (.slice a2 j cap2) (outTo L L.length) (tkTo L L.length)))) (wr.setRow r (viewV c (.slice a2 j cap2) (outTo L L.length) (tkTo L L.length)))) := Lib.hid ⟨ss, a2, cap2, HI.out, by rw [HNK.out], by
      have h := (HV.out.own.keep hkr (fun ad e => by have := (HV.out.own.lt ad e).1; have := HV.out.lt; omega)).mono HWB.out
      rw [List.take_of_length_le (by rw [HNK.out]; exact Nat.le_refl _)] at h
      rw [HNK.out]
      exact h, HB.out.trans (hkr.below HB.out.size (fun i e => by have := HRR.out; omega))⟩
     generalize wr.setRow r (viewV c (.slice a2 j cap2) (outTo L L.length) (tkTo L L.length)) = wz at HRB HE
     clear hkr
     go_wp2_with fail
     exact bodyPost_ret (ret55 rfl rfl HRB.out) rfl HE.out
end Go.Proofs.YtnekpgmgnepdoaaGreat.F
