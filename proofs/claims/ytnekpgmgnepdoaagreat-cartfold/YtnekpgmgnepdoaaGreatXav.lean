import Derived.Test.YtnekpgmgnepdoaaGreatXae
import Derived.Test.YtnekpgmgnepdoaaGreatXal
import Derived.Test.YtnekpgmgnepdoaaGreatXau
namespace Go.Proofs.YtnekpgmgnepdoaaGreat
open Go.RowKit Go.Maps
theorem tk_at {c : Nat} : ∀ {l : List La}, (l.Pairwise fun a b => a.c < b.c) → ∀ {k : Nat} {y : La}, l[k]? = some y → y.c = c → tkOf l c = some y.t
 | [], _, _, _, h, _ => by simp at h
 | z :: l, hp, 0, y, h, hc => by
  obtain rfl : z = y := by simpa using h
  rw [tkOf_cons, if_pos hc]
 | z :: l, hp, k + 1, y, h, hc => by
  obtain ⟨h1, h2⟩ := List.pairwise_cons.1 hp
  have hy : l[k]? = some y := by simpa using h
  have := h1 y (List.mem_of_getElem? hy)
  rw [tkOf_cons, if_neg (by omega)]
  exact tk_at h2 hy hc
structure Vx (w W : World) (s : Sta) (ps r v : Nat) (a : Option Addr) (n c0 : Nat) (b : Option Addr) (m0 d0 c : Nat) : Prop where
 st : Blk W ps 39 (sv s.v a n c0 b m0 d0)
 res : Blk W r 55 (viewV 0 (.slice none 0 0) false 0)
 view : Blk W v 55 (viewV c (.slice none 0 0) false 0)
 old : Below w.heap.size w W
theorem Vx.below {w W W' : World} {s : Sta} {ps r v : Nat} {a : Option Addr} {n c0 : Nat} {b : Option Addr} {m0 d0 c : Nat} (h : Vx w W s ps r v a n c0 b m0 d0 c) (hb : Below W.heap.size W W') : Vx w W' s ps r v a n c0 b m0 d0 c := ⟨h.st.below hb, h.res.below hb, h.view.below hb, h.old.trans (hb.mono h.old.size)⟩
theorem vx_new (w : World) (s : Sta) (a : Option Addr) (n c0 : Nat) (b : Option Addr) (m0 d0 c : Nat) : Vx w (((w.alloc (.cells (sv s.v a n c0 b m0 d0) 39)).alloc (.cells #[.int .u16 0, .slice none 0 0, .bool false, .int .u32 0] 55)).alloc (.cells #[.int .u16 (c : Int), .slice none 0 0, .bool false, .int .u32 0] 55)) s w.heap.size (w.heap.size + 1) (w.heap.size + 1 + 1) a n c0 b m0 d0 c := by
 have h1 := Blk.new w 39 (sv s.v a n c0 b m0 d0)
 have h2 := Blk.new (w.alloc (.cells (sv s.v a n c0 b m0 d0) 39)) 55 #[.int .u16 0, .slice none 0 0, .bool false, .int .u32 0]
 have h3 := Blk.new ((w.alloc (.cells (sv s.v a n c0 b m0 d0) 39)).alloc (.cells #[.int .u16 0, .slice none 0 0, .bool false, .int .u32 0] 55)) 55 #[.int .u16 (c : Int), .slice none 0 0, .bool false, .int .u32 0]
 have b2 := below_one (w.alloc (.cells (sv s.v a n c0 b m0 d0) 39)) (.cells #[.int .u16 0, .slice none 0 0, .bool false, .int .u32 0] 55)
 have b3 := below_one ((w.alloc (.cells (sv s.v a n c0 b m0 d0) 39)).alloc (.cells #[.int .u16 0, .slice none 0 0, .bool false, .int .u32 0] 55)) (.cells #[.int .u16 (c : Int), .slice none 0 0, .bool false, .int .u32 0] 55)
 simp only [World.size_alloc] at h2 h3
 exact ⟨(h1.below b2).below b3, h2.below b3, h3, ((below_one w _).trans (b2.mono (by simp))).trans (b3.mono (by simp; omega))⟩
set_option maxRecDepth 100000 in
set_option maxHeartbeats 16000000 in
theorem view_any {s : Sta} {a b : Option Addr} {n c0 m0 d0 : Nat} {w : World} (hl : SL w s a n b m0) (hn : n < 100) (hm0 : m0 < 200000) (c : Nat) (hc16 : c < 65536) : Calls Tryz.prog 24 #[.agg (sv s.v a n c0 b m0 d0), .int .u16 (c : Int)] w (CViewP s c w) := by
 obtain ⟨zo, ho⟩ : ∃ z, En.zero = z := ⟨_, rfl⟩
 have HO := Lib.hid ho
 have HL := Lib.hid hl
 have HNN := Lib.hid hl.es.len'
 have HTN := Lib.hid hl.ts.len'
 have hb1 := fun (v : V) x y w => box39 v x y w
 have HX0 := Lib.hid (vx_new w s a n c0 b m0 d0 c)
 clear ho hl
 go_enter Tryz.func24, Tryz.ntmps24
 go_upto_region 2 with fail
 clear hb1
 generalize ((w.alloc (.cells (sv s.v a n c0 b m0 d0) 39)).alloc (.cells #[.int .u16 0, .slice none 0 0, .bool false, .int .u32 0] 55)).alloc (.cells #[.int .u16 (c : Int), .slice none 0 0, .bool false, .int .u32 0] 55) = w0 at HX0
 obtain ⟨ps, hps⟩ : ∃ p, w.heap.size = p := ⟨_, rfl⟩
 obtain ⟨r, hr⟩ : ∃ p, ps + 1 = p := ⟨_, rfl⟩
 obtain ⟨v, hv⟩ : ∃ p, r + 1 = p := ⟨_, rfl⟩
 have HPS : Hid (w.heap.size = ps ∧ ps + 1 = r ∧ r + 1 = v) := Lib.hid ⟨hps, hr, hv⟩
 rw [hps, hr, hv] at HX0
 rw [hps, hr, hv]
 clear hps hr hv
 have HRR : Hid (w.heap.size ≤ r) := Lib.hid (by have := HPS.out; omega)
 have HGV0 : Hid (w.heap.size ≤ v) := Lib.hid (by have := HPS.out; omega)
 go_wp2_with (refine wpList_run rfl (exec_load39 rfl rfl HX0.out.st) ?_)
 refine (right_any' (HL.out.below HX0.out.old) hn (by omega)).mono ?_
 rintro e w1 ⟨q, rfl, hq, hb⟩
 have HX := Lib.hid (HX0.out.below hb)
 clear hb HX0
 cases q
 ·have HNR : Hid (¬ s.Right) := Lib.hid (fun h => by have := hq.2 h; cases this)
  clear hq
  go_wp2_with (refine wpList_stop55 rfl ?_)
  refine ⟨?_⟩
  refine wpList_run rfl (exec_load55 rfl rfl HX.out.view) ?_
  refine wpList_void rfl rfl (exec_store55 rfl rfl rfl HX.out.res) ?_
  have hkr := Kept.setRow w1 r (viewV c (.slice none 0 0) false 0)
  have HRB : Hid (Blk (w1.setRow r (viewV c (.slice none 0 0) false 0)) r 55 (viewV c (.slice none 0 0) false 0)) := Lib.hid HX.out.res.row
  have HE : Hid (CViewP s c w (.returned (.agg (viewV c (.slice none 0 0) false 0))) (w1.setRow r (viewV c (.slice none 0 0) false 0))) := Lib.hid (.inr ⟨HNR.out, rfl, HX.out.old.trans (hkr.below HX.out.old.size (fun i e => by have := HRR.out; omega))⟩)
  generalize w1.setRow r (viewV c (.slice none 0 0) false 0) = wz at HRB HE
  clear hkr
  go_wp2_with fail
  exact bodyPost_ret (ret55 rfl rfl HRB.out) rfl HE.out
 ·have HRT := Lib.hid (hq.1 rfl)
  clear hq
  obtain ⟨T, hT⟩ : ∃ T, (tkOf s.ts c).getD 0 = T := ⟨_, rfl⟩
  have HTT := Lib.hid hT
  clear hT
  have c17 := stc17 HX.out.st
  go_wp2_with fail
  clear c17
  refine (tickIndex_any (HL.out.ts.below HX.out.old) (by omega) HRT.out.ts.up c).mono ?_
  rintro e w2 ⟨rfl, hg⟩
  have HX2 := Lib.hid (HX.out.below hg.below)
  clear hg HX
  obtain ⟨fn, hfn⟩ : ∃ fn, (tkOf s.ts c).isSome = fn := ⟨_, rfl⟩
  have HFN := Lib.hid hfn
  rw [hfn]
  clear hfn
  obtain ⟨ix, hix⟩ : ∃ ix, tkIx s.ts c = ix := ⟨_, rfl⟩
  have HIX := Lib.hid hix
  rw [hix]
  clear hix
  have c16 := stc16 HX2.out.st
  cases fn
  case' false =>
   have HT0 : Hid (T = 0) := Lib.hid (by have h1 := HFN.out; have h2 := HTT.out; cases h : tkOf s.ts c with
    | none => rw [h] at h2; exact h2.symm
    | some t => rw [h] at h1; cases h1)
   have HV0 : Hid (Blk w2 v 55 (viewV c (.slice none 0 0) false T)) := Lib.hid (by rw [HT0.out]; exact HX2.out.view)
   have HR0 := Lib.hid HX2.out.res
   have HB0 := Lib.hid HX2.out.old
   have HS0 := Lib.hid HX2.out.st
   clear HT0
   go_upto_region 7 with fail
   clear HX2 c16
   generalize w2 = w5 at HV0 HR0 HB0 HS0
  case' true =>
   have hex := (tkOf_some (l := s.ts) (c := c)).1 HFN.out
   obtain ⟨y, hy, hyc, hset⟩ := ticked_old (x := ⟨c, 0, hc16, by omega⟩) HRT.out.ts.up hex (k := ix) HIX.out
   have HYT : Hid (T = y.t) := Lib.hid (by have := tk_at HRT.out.ts.up hy hyc; rw [← HTT.out, this]; rfl)
   have hixm : ix < m0 := by have := (List.getElem?_eq_some_iff.1 hy).1; have := HTN.out; omega
   obtain ⟨g, off, y', rfl, hy', hrw⟩ := LL.at (HL.out.ts.below HX2.out.old) hixm
   obtain rfl := Option.some.inj (hy'.symm.trans hy)
   have ce : w2.cell? ⟨g, off + ix * 2 + 1, none⟩ = some (.int .u32 (y'.t : Int)) := hrw 1 _ rfl
   have c17 := stc17 HX2.out.st
   have ct : w2.cell? ⟨v, 3, none⟩ = some (.int .u32 0) := by rw [HX2.out.view.cell]; rfl
   have ft : w2.frozen? ⟨v, 3, none⟩ = false := HX2.out.view.frozen 3
   have hks := Kept.setCell w2 ⟨v, 3, none⟩ (.int .u32 (y'.t : Int))
   have HV0 : Hid (Blk (w2.setCell ⟨v, 3, none⟩ (.int .u32 (y'.t : Int))) v 55 (viewV c (.slice none 0 0) false T)) := Lib.hid (by rw [HYT.out]; exact HX2.out.view.set 3 (.int .u32 (y'.t : Int)))
   have HR0 : Hid (Blk (w2.setCell ⟨v, 3, none⟩ (.int .u32 (y'.t : Int))) r 55 (viewV 0 (.slice none 0 0) false 0)) := Lib.hid (HX2.out.res.kept hks (by have := HPS.out; simp only; omega))
   have HB0 : Hid (Below w.heap.size w (w2.setCell ⟨v, 3, none⟩ (.int .u32 (y'.t : Int)))) := Lib.hid (HX2.out.old.trans (hks.below HX2.out.old.size (fun i e => by have := HGV0.out; simp only at e; omega)))
   have HS0 : Hid (Blk (w2.setCell ⟨v, 3, none⟩ (.int .u32 (y'.t : Int))) ps 39 (sv s.v a n c0 (some ⟨g, off, none⟩) m0 d0)) := Lib.hid (HX2.out.st.kept hks (by have := HPS.out; simp only; omega))
   clear hset hy hyc hy' hrw hex hks HYT
   go_upto_region 7 with (refine wpList_run rfl (exec_idx96 (i := ix) rfl rfl rfl rfl hixm) ?_)
   clear HX2 c16 c17 ct ft ce
   generalize w2.setCell ⟨v, 3, none⟩ (.int .u32 (y'.t : Int)) = w5 at HV0 HR0 HB0 HS0
  all_goals
   have hmm := @run_makeMap Tryz.prog
   have c16 : (w5.alloc (.map #[] 0)).cell? ⟨ps, 16, none⟩ = some (.slice a n c0) := stc16 (HS0.out.below (below_one w5 _))
   have HV3 : Hid (Vs (w5.alloc (.map #[] 0)) r v w5.heap.size c s.es 0 T 0 (fun _ => none)) := Lib.hid ⟨HR0.out.below (below_one w5 _), HV0.out.below (below_one w5 _), mpF_new w5 31, Nat.le_refl _, fun _ _ => rfl, by have := HV0.out.lt; have := HPS.out; omega⟩
   have HB3 : Hid (Below w.heap.size w (w5.alloc (.map #[] 0))) := Lib.hid (HB0.out.trans ((below_one w5 _).mono HB0.out.size))
   have HM : Hid (v < w5.heap.size) := Lib.hid HV0.out.lt
   clear HS0 HV0 HR0 HB0
   go_upto_region 9 with fail
   clear hmm c16
   generalize w5.alloc (.map #[] 0) = w6 at HV3 HB3
   generalize w5.heap.size = m at HV3 HM
   go_loopw [38] (VwR w r v m n c T s.es) (fun u _ => n - (numI u).toNat)
   case atStart => exact ⟨0, 0, _, rfl, Nat.zero_le _, HV3, HB3⟩
   case round =>
    obtain ⟨k, cnt, f, rfl, hk, HS, HB⟩ := hrel
    clear HV3 HB3
    by_cases hlt : k < n
    ·obtain ⟨g2, off2, x, rfl, hx, hrw⟩ := EL.at (HL.out.es.below HB.out) hlt
     have HX := Lib.hid hx
     have HR := Lib.hid hrw
     clear hx hrw
     go_wp2_with (first | (refine wpList_run rfl (exec_idx72 (i := k) rfl rfl rfl rfl hlt) ?_) | (refine wpList_run rfl (exec_ld72 (p := x) rfl rfl HR.out) ?_) | (refine wpList_run rfl (exec_alloc72z HO.out rfl) ?_) | (refine wpList_stop72 rfl ?_))
     refine ⟨?_⟩
     refine wpList_void rfl rfl (exec_store72 (p := zo) (u := x) rfl rfl rfl (Blk.new wr 72 zo.arr)) ?_
     have hbo := bo_laid wr 72 zo.arr x.arr
     have HT5 := Lib.hid (HS.out.below hbo.old)
     have HB5 : Hid (Below w.heap.size w ((wr.alloc (.cells zo.arr 72)).setRow wr.heap.size x.arr)) := Lib.hid (HB.out.trans (hbo.old.mono HB.out.size))
     have HP5 := Lib.hid hbo.one
     have HPM : Hid (¬ wr.heap.size = m) := Lib.hid (fun e => by have := HS.out.mp.lt; omega)
     clear hbo HS HB HR
     generalize (wr.alloc (.cells zo.arr 72)).setRow wr.heap.size x.arr = w5 at HT5 HB5 HP5
     generalize wr.heap.size = p at HP5 HPM
     have e0 := ent0 HP5.out
     have e3 := ent3 HP5.out
     by_cases hcc : x.c = c
     ·have q1 := eqB' hcc
      have HC := Lib.hid hcc
      clear hcc
      by_cases h4 : x.k = 4
      ·have q4 : ((x.k : Int) == 4) = true := by simp; omega
       have fo : w5.frozen? ⟨v, 2, none⟩ = false := HT5.out.view.frozen 2
       have co : w5.cell? ⟨v, 2, none⟩ = some (.bool (coutTo c s.es k)) := by rw [HT5.out.view.cell]; rfl
       have HE := Lib.hid (HT5.out.out HX.out HC.out h4)
       have HBE := Lib.hid (HB5.out.trans ((Kept.setCell w5 ⟨v, 2, none⟩ (.bool true)).below HB5.out.size (fun j e => by rw [e]; exact HGV0.out)))
       clear h4
       go_wp2_with fail
       go_roundw
       case rel => exact ⟨k + 1, cnt, f, by go_num, hlt, HE, HBE⟩
       case measure => simp [numI]; omega
      ·have q4 : ((x.k : Int) == 4) = false := by simp; omega
       have H4 := Lib.hid h4
       clear h4
       go_upto_region 11 with fail
       clear q4 q1 e0 e3
       obtain ⟨am, ham⟩ : ∃ am, (camTo c s.es k x.i).getD Ac.zero = am := ⟨_, rfl⟩
       have HAM := Lib.hid ham
       clear ham
       have HGM : Hid (w.heap.size ≤ m) := Lib.hid (by have := HGV0.out; have := HM.out; omega)
       refine wp_region_held_drew (S := fun w' => Blk w' p 72 x.arr) (by kernel_rfl) (HP5.out.below (drew_below _)) (fun hS => ?_)
       refine held_tk 0 42 (.map (some m)) rfl rfl (by kernel_rfl) (fun _ _ _ h=>h) (fun _ _=>rfl) hS ?_;simp only [Act.put,ap1,ap2,ap3]
       refine held_tk 1 43 (.pointer (some ⟨p,1,none⟩)) rfl rfl (by kernel_rfl) (fun _ _ _ h=>h) (fun _ _=>(by kernel_rfl)) hS ?_;simp only [Act.put,ap1,ap2,ap3]
       refine held_tk 2 44 (.int .u16 (x.i : Int)) rfl rfl (by kernel_rfl) (fun _ _ _ h=>h) (fun _ h=>exec_cell rfl rfl (load_cell (by kernel_rfl) (ent1 h))) hS ?_;simp only [Act.put,ap1,ap2,ap3]
       refine held_tk 3 45 (.map (some m)) rfl rfl (by kernel_rfl) (fun _ _ _ h=>h) (fun _ _=>rfl) hS ?_;simp only [Act.put,ap1,ap2,ap3]
       refine held_tk 4 46 (.pointer (some ⟨p,1,none⟩)) rfl rfl (by kernel_rfl) (fun _ _ _ h=>h) (fun _ _=>(by kernel_rfl)) hS ?_;simp only [Act.put,ap1,ap2,ap3]
       refine held_tk 5 47 (.int .u16 (x.i : Int)) rfl rfl (by kernel_rfl) (fun _ _ _ h=>h) (fun _ h=>exec_cell rfl rfl (load_cell (by kernel_rfl) (ent1 h))) hS ?_;simp only [Act.put,ap1,ap2,ap3]
       refine held_tk 7 49 (.agg x.arr) rfl rfl (by kernel_rfl) (fun _ _ _ h=>h) (fun _ h=>exec_load72 (p:=x) rfl rfl h) hS ?_;simp only [Act.put,ap1,ap2,ap3]
       refine held_exec 6 48 (.agg am.arr) rfl rfl (by kernel_rfl) (by kernel_rfl) (exec_lookAc rfl rfl rfl (HT5.out.mp.below (drew_below _)) x.hi (HT5.out.val x.i x.hi) HAM.out) hS ?_;simp only [Act.put,ap1,ap2,ap3]
       refine held_callP 8 50 62 #[.agg am.arr,.agg x.arr] rfl (by kernel_rfl) rfl (by kernel_rfl) (by kernel_rfl) (cwith_any am x _) (fun e w6 hP=>?_)
       obtain ⟨rfl, hb6⟩ := hP
       have HT6 : Hid (Vs w6 r v m c s.es k T cnt f) := Lib.hid ((HT5.out.below (drew_below _)).below hb6)
       have HB6 : Hid (Below w.heap.size w w6) := Lib.hid (HB5.out.drew.trans (hb6.mono HB5.out.size))
       refine ⟨_, rfl, hS.below hb6, fun hS => ?_⟩
       simp only [Act.put, ap1, ap2, ap3]
       obtain ⟨w7, hrun, hmp7, hk7⟩ := HT6.out.mp.put law31 und114 (by have := HT6.out.cnt; omega) (v := .agg (am.with x).arr) (key31 x.hi)
       refine held_void 9 rfl rfl (by kernel_rfl) (by kernel_rfl) (exec_upd rfl rfl rfl rfl hrun) (hS.kept hk7 HPM.out) ?_
       obtain ⟨cnt', f', hv7⟩ := HT6.out.put HX.out HC.out H4.out hk7 (by rw [HAM.out]; exact hmp7)
       have HV7 := Lib.hid hv7
       have HB7 : Hid (Below w.heap.size w w7) := Lib.hid (HB6.out.trans (hk7.below HB6.out.size (fun j e => by rw [e]; exact HGM.out)))
       clear hv7 hrun hmp7 hk7 hb6
       refine wpAnyH_done (by kernel_rfl) ?_ _
       go_wp2_with fail
       go_roundw
       case rel => exact ⟨k + 1, cnt', f', by go_num, hlt, HV7, HB7⟩
       case measure => simp [numI]; omega
     ·have q1 := neB hcc
      have HE := Lib.hid (HT5.out.skip HX.out hcc)
      clear hcc
      go_wp2_with fail
      go_roundw
      case rel => exact ⟨k + 1, cnt, f, by go_num, hlt, HE, HB5⟩
      case measure => simp [numI]; omega
    ·obtain rfl : k = n := by omega
     clear hlt hk
     go_wp2_with fail
     refine (keys_any _ _).mono ?_
     rintro e wk ⟨rfl, rfl⟩
     go_wp2_with fail
     have HSK : Hid (Vs (wr.alloc (.cells #[.map (some m)] 114)) r v m c s.es k T cnt f) := Lib.hid (HS.out.below (below_one wr _))
     have hck : (wr.alloc (.cells #[.map (some m)] 114)).cell? ⟨wr.heap.size, 0, none⟩ = some (.map (some m)) := by rw [(Blk.new wr 114 #[.map (some m)]).cell]; rfl
     have hsz : wr.heap.size < (wr.alloc (.cells #[.map (some m)] 114)).heap.size := by simp
     have HBK : Hid (Below w.heap.size w (wr.alloc (.cells #[.map (some m)] 114))) := Lib.hid (HB.out.trans ((below_one wr _).mono HB.out.size))
     have HKC := Lib.hid (sorted_any (by have := HS.out.cnt; omega) hsz hck HSK.out.mp)
     clear hck hsz HS HB
     generalize wr.alloc (.cells #[.map (some m)] 114) = wk at HSK HBK HKC
     refine HKC.out.mono ?_
     rintro e w8 ⟨ak, capk, ss, rfl, hup, hmem, hou, hb8⟩
     have HI : Hid (CItems c s.es ss) := Lib.hid ⟨hup, fun i => by
      rw [hmem i]
      constructor
      ·rintro ⟨h1, h2⟩
       have := HSK.out.val i h1
       rw [this] at h2
       rw [HNN.out]
       exact ⟨h1, by simpa using h2⟩
      ·rintro ⟨h1, h2⟩
       refine ⟨h1, ?_⟩
       rw [HSK.out.val i h1]
       rw [HNN.out] at h2
       simpa using h2⟩
     have HS8 := Lib.hid (HSK.out.below hb8)
     have HB8 : Hid (Below w.heap.size w w8) := Lib.hid (HBK.out.trans (hb8.mono HBK.out.size))
     obtain ⟨nk, hnk⟩ : ∃ nk, ss.length = nk := ⟨_, rfl⟩
     have HNK := Lib.hid hnk
     rw [hnk] at hou ⊢
     have HV8 : Hid (Vl w8 w8.heap.size r v m ak nk none 0 0 c T s.es ss cnt f) := Lib.hid ⟨HS8.out.res, by rw [HNN.out]; exact HS8.out.view, HS8.out.mp, (ownG_of hou).gl, by simpa using ownG_nil _ _ _ _, ⟨HS8.out.apart.1, HS8.out.apart.2, HS8.out.mp.lt⟩, fun ad e => ⟨(hou.lt ad e).2, Nat.lt_of_lt_of_le HSK.out.mp.lt (hou.lt ad e).1⟩⟩
     have HVAL : Hid (∀ i, i < 65536 → f (litK i) = (camTo c s.es s.es.length i).map fun x => .agg x.arr) := Lib.hid (fun i hi => by rw [HNN.out]; exact HS8.out.val i hi)
     have HB9 : Hid (w8.heap.size ≤ w8.heap.size) := Lib.hid (Nat.le_refl _)
     have HGV : Hid (w.heap.size ≤ v) := HGV0
     have hnk63 : nk < 100 := by
      have h1 := keys_le HSK.out.mp ⟨List.nodup_iff_pairwise_ne.2 (hup.imp fun h => by omega), hmem⟩
      have := HSK.out.cnt
      omega
     clear hnk hup hmem hou hb8 HS8 HSK HBK HKC
     go_wp2_with fail
     obtain ⟨B, hB⟩ : ∃ B, w8.heap.size = B := ⟨_, rfl⟩
     have HWB : Hid (w.heap.size ≤ B) := Lib.hid (by rw [← hB]; exact HB8.out.size)
     rw [hB] at HV8 HB9
     have HBB : Hid (B ≤ w8.heap.size) := Lib.hid (by omega)
     clear hB HB9
     go_loopw [66] (VlR w B r v m ak nk c T s.es ss cnt f) (fun u _ => nk - (numI u).toNat)
     case atStart => exact ⟨0, 0, none, rfl, Nat.zero_le _, HV8, HB8, HBB⟩
     case round =>
      obtain ⟨j, cap2, a2, rfl, hj, HV, HB, HBW⟩ := hrel
      clear HV8 HB8 HBB
      by_cases hlt : j < nk
      ·have hjss : j < ss.length := by rw [HNK.out]; exact hlt
       obtain ⟨it, hit⟩ : ∃ it, ss[j]? = some it := ⟨_, List.getElem?_eq_getElem hjss⟩
       have HIT := Lib.hid hit
       have HI6 : Hid (it < 65536) := Lib.hid ((HI.out.mem it).1 (List.mem_of_getElem? hit)).1
       obtain ⟨gk, ok, hak, hkc⟩ : ∃ b off, ak = some ⟨b, off, none⟩ ∧ wr.cell? ⟨b, off + j, none⟩ = some (.int .u16 (it : Int)) := by
        rcases HV.out.keys.cells with h0 | ⟨b, off, ha, hc⟩
        ·omega
        ·have := hc j [encK it] (by simp [ones, hit]) 0 (encK it) rfl
         rw [Nat.mul_one, Nat.add_zero] at this
         exact ⟨b, off, ha, this⟩
       subst hak
       clear hit
       go_upto_region 19 with fail
       clear hkc
       obtain ⟨am, ham⟩ : ∃ am, (camTo c s.es s.es.length it).getD Ac.zero = am := ⟨_, rfl⟩
       have HQ : Hid (cqtyAt c s.es it = am.qty) := Lib.hid (by unfold cqtyAt; rw [ham])
       have HAM := Lib.hid ham
       have hl8 : wr.cell? ⟨v, 1, none⟩ = some (.slice a2 j cap2) := by rw [HV.out.view.cell]; rfl
       have HL8 := Lib.hid hl8
       clear ham hl8
       refine wp_region_held_drew (S := fun w' => MpF w' 31 m cnt f) (by kernel_rfl) (HV.out.mp.below (drew_below _)) (fun hS => ?_)
       refine held_tk 0 70 (.pointer (some ⟨v,1,none⟩)) rfl rfl (by kernel_rfl) (fun _ _ _ h=>h) (fun _ _=>(by kernel_rfl)) hS ?_;simp only [Act.put,ap1,ap2,ap3]
       refine held_tk 2 72 (.int .u16 (it : Int)) rfl rfl (by kernel_rfl) (fun _ _ _ h=>h) (fun _ _=>rfl) hS ?_;simp only [Act.put,ap1,ap2,ap3]
       refine held_tk 3 73 (.map (some m)) rfl rfl (by kernel_rfl) (fun _ _ _ h=>h) (fun _ _=>rfl) hS ?_;simp only [Act.put,ap1,ap2,ap3]
       refine held_tk 4 74 (.int .u16 (it : Int)) rfl rfl (by kernel_rfl) (fun _ _ _ h=>h) (fun _ _=>rfl) hS ?_;simp only [Act.put,ap1,ap2,ap3]
       refine held_tk 5 75 (.agg am.arr) rfl rfl (by kernel_rfl) (fun _ _ _ h=>h) (fun _ h=>exec_lookAc rfl rfl rfl h HI6.out (HVAL.out it HI6.out) HAM.out) hS ?_;simp only [Act.put,ap1,ap2,ap3]
       have HVD := Lib.hid (HV.out.below (drew_below wr))
       have HBD : Hid (Below w.heap.size w wr.drew) := Lib.hid HB.out.drew
       have HZD : Hid (B ≤ wr.drew.heap.size) := HBW
       refine wpAnyH_ready (rs := [1, 6]) (by kernel_rfl) (by simp) (br_exec 1 71 (.slice a2 j cap2) rfl rfl (by kernel_rfl) (exec_cell rfl rfl (load_cell (by kernel_rfl) HL8.out)) hS ?_ (br_callP 6 76 65 #[.agg am.arr] rfl rfl (by kernel_rfl) (by kernel_rfl) (cqty_any am _) (fun e w6 hP => ?_) AllReadyH.nil))
       ·simp only [Act.put, ap1, ap2, ap3]
        refine held_callP 6 76 65 #[.agg am.arr] rfl (by kernel_rfl) rfl (by kernel_rfl) (by kernel_rfl) (cqty_any am _) (fun e w6 hP=>?_)
        obtain ⟨rfl, hb6⟩ := hP
        have HVQ := Lib.hid (HVD.out.below hb6)
        have HBQ : Hid (Below w.heap.size w w6) := Lib.hid (HBD.out.trans (hb6.mono HBD.out.size))
        have HBZ : Hid (B ≤ w6.heap.size) := Lib.hid (Nat.le_trans HZD.out hb6.size)
        refine ⟨_, rfl, HVQ.out.mp, fun hS => ?_⟩
        simp only [Act.put, ap1, ap2, ap3]
        refine held_tk 7 77 (.agg #[.int .u16 (it : Int),.int .u32 (am.qty : Int)]) rfl rfl (by kernel_rfl) (fun _ _ _ h=>h) (fun _ _=>exec_bldLine (i:=it) (n:=am.qty) rfl rfl rfl) hS ?_;simp only [Act.put,ap1,ap2,ap3]
        refine held_exec 8 78 (.slice (some ⟨w6.heap.size,0,none⟩) 1 1) rfl rfl (by kernel_rfl) (by kernel_rfl) (exec_bsLine (cs:=[.int .u16 (it : Int),.int .u32 (am.qty : Int)]) rfl rfl rfl) (hS.below (below_one w6 _)) ?_;simp only [Act.put,ap1,ap2,ap3]
        have HVX := Lib.hid (HVQ.out.below (below_one w6 (.cells #[.int .u16 (it : Int), .int .u32 (am.qty : Int)] 86)))
        have HBX : Hid (Below w.heap.size w (w6.alloc (.cells #[.int .u16 (it : Int), .int .u32 (am.qty : Int)] 86))) := Lib.hid (HBQ.out.trans ((below_one w6 _).mono HBQ.out.size))
        have HBS : Hid (B ≤ (w6.alloc (.cells #[.int .u16 (it : Int), .int .u32 (am.qty : Int)] 86)).heap.size) := Lib.hid (by have := HBZ.out; simp; omega)
        have HGB : Hid (Blk (w6.alloc (.cells #[.int .u16 (it : Int), .int .u32 (am.qty : Int)] 86)) w6.heap.size 86 #[.int .u16 (it : Int), .int .u32 (am.qty : Int)]) := Lib.hid (Blk.new w6 86 _)
        generalize w6.alloc (.cells #[.int .u16 (it : Int), .int .u32 (am.qty : Int)] 86) = wx at HVX HBX HBS HGB
        generalize w6.heap.size = g8 at HGB
        refine held_appendG 9 79 53 86 2 8 info86 und53 rfl (by decide) (by decide) rfl rfl (by kernel_rfl) (by kernel_rfl) rfl rfl rfl HVX.out.own HGB.out rfl (by intro u hu; simp only [List.mem_cons,List.not_mem_nil,or_false] at hu; rcases hu with rfl | rfl <;> rfl) (by omega) HBS.out (fun a3 cap3 w9 ho9 hk9 hl9=>?_)
        have hno : ∀ g, g < B → ¬ At a2 g := fun g hg ⟨ad, e, e2⟩ => by have := (HVX.out.own.lt ad e).1; omega
        have hlt3 := HVX.out.lt
        have hm9 : MpF w9 31 m cnt f := HVX.out.mp.kept hk9 (hno _ (by omega))
        have hv9 := HVX.out.view.kept hk9 (hno _ (by omega))
        have hb9 : Below w.heap.size w w9 := HBX.out.trans (hk9.below HBX.out.size (fun i e => by obtain ⟨ad, e1, e2⟩ := e; have := (HVX.out.own.lt ad e1).1; have := HWB.out; omega))
        have hks : Kept (fun i => i = v) w9 (w9.setCell ⟨v, 1, none⟩ (.slice a3 (j + 1) cap3)) := Kept.setCell w9 ⟨v, 1, none⟩ _
        have HVN := Lib.hid (HVX.out.more (i := it) HIT.out hk9 (by have e : clineCs c s.es it = [.int .u16 (it : Int), .int .u32 (am.qty : Int)] := (by unfold clineCs; rw [HQ.out]); rw [e]; exact ho9))
        have HBN : Hid (Below w.heap.size w (w9.setCell ⟨v, 1, none⟩ (.slice a3 (j + 1) cap3))) := Lib.hid (hb9.trans (hks.below hb9.size (fun i e => by rw [e]; exact HGV.out)))
        have HBN2 : Hid (B ≤ (w9.setCell ⟨v, 1, none⟩ (.slice a3 (j + 1) cap3)).heap.size) := Lib.hid (Nat.le_trans HBS.out (Nat.le_trans hk9.size hks.size))
        have hm10 : MpF (w9.setCell ⟨v, 1, none⟩ (.slice a3 (j + 1) cap3)) 31 m cnt f := HVN.out.mp
        refine ⟨hm9, ?_⟩
        simp only [Act.put, ap1, ap2, ap3]
        refine held_exec 10 80 (.pointer (some ⟨v,1,none⟩)) rfl rfl (by kernel_rfl) (by kernel_rfl) (by kernel_rfl) hm9 ?_;simp only [Act.put,ap1,ap2,ap3]
        refine held_void 11 rfl rfl (by kernel_rfl) (by kernel_rfl) (exec_stSl rfl rfl rfl hv9 (by show 1 < 4; omega)) hm10 ?_
        clear hno hlt3 hm9 hv9 hb9 hks hm10 ho9 hk9 hl9
        refine wpAnyH_done (by kernel_rfl) ?_ _
        go_wp2_with fail
        go_roundw
        case rel => exact ⟨j + 1, cap3, a3, by go_num, hlt, HVN, HBN, HBN2⟩
        case measure => simp [numI]; omega
       ·obtain ⟨rfl, hb6⟩ := hP
        have HVQ := Lib.hid (HVD.out.below hb6)
        have HBQ : Hid (Below w.heap.size w w6) := Lib.hid (HBD.out.trans (hb6.mono HBD.out.size))
        have HBZ : Hid (B ≤ w6.heap.size) := Lib.hid (Nat.le_trans HZD.out hb6.size)
        have hl6 : w6.cell? ⟨v, 1, none⟩ = some (.slice a2 j cap2) := by rw [HVQ.out.view.cell]; rfl
        have HL6 := Lib.hid hl6
        have HL7 : Hid ((w6.alloc (.cells #[.int .u16 (it : Int), .int .u32 (am.qty : Int)] 86)).cell? ⟨v, 1, none⟩ = some (.slice a2 j cap2)) := Lib.hid (by rw [(HVQ.out.view.below (below_one w6 _)).cell]; rfl)
        clear hl6
        refine ⟨_, rfl, HVQ.out.mp, fun hS => ?_⟩
        simp only [Act.put, ap1, ap2, ap3]
        refine held_tk 7 77 (.agg #[.int .u16 (it : Int),.int .u32 (am.qty : Int)]) rfl rfl (by kernel_rfl) (fun _ _ _ h=>h) (fun _ _=>exec_bldLine (i:=it) (n:=am.qty) rfl rfl rfl) hS ?_;simp only [Act.put,ap1,ap2,ap3]
        refine wpAnyH_ready (rs := [1, 8]) (by kernel_rfl) (by simp) (br_exec 1 71 (.slice a2 j cap2) rfl rfl (by kernel_rfl) (exec_cell rfl rfl (load_cell (by kernel_rfl) HL6.out)) hS ?_ (br_exec 8 78 (.slice (some ⟨w6.heap.size, 0, none⟩) 1 1) rfl rfl (by kernel_rfl) (exec_bsLine (cs := [.int .u16 (it : Int), .int .u32 (am.qty : Int)]) rfl rfl rfl) (hS.below (below_one w6 _)) ?_ AllReadyH.nil))
        ·simp only [Act.put, ap1, ap2, ap3]
         refine held_exec 8 78 (.slice (some ⟨w6.heap.size,0,none⟩) 1 1) rfl rfl (by kernel_rfl) (by kernel_rfl) (exec_bsLine (cs:=[.int .u16 (it : Int),.int .u32 (am.qty : Int)]) rfl rfl rfl) (hS.below (below_one w6 _)) ?_;simp only [Act.put,ap1,ap2,ap3]
         have HVX := Lib.hid (HVQ.out.below (below_one w6 (.cells #[.int .u16 (it : Int), .int .u32 (am.qty : Int)] 86)))
         have HBX : Hid (Below w.heap.size w (w6.alloc (.cells #[.int .u16 (it : Int), .int .u32 (am.qty : Int)] 86))) := Lib.hid (HBQ.out.trans ((below_one w6 _).mono HBQ.out.size))
         have HBS : Hid (B ≤ (w6.alloc (.cells #[.int .u16 (it : Int), .int .u32 (am.qty : Int)] 86)).heap.size) := Lib.hid (by have := HBZ.out; simp; omega)
         have HGB : Hid (Blk (w6.alloc (.cells #[.int .u16 (it : Int), .int .u32 (am.qty : Int)] 86)) w6.heap.size 86 #[.int .u16 (it : Int), .int .u32 (am.qty : Int)]) := Lib.hid (Blk.new w6 86 _)
         generalize w6.alloc (.cells #[.int .u16 (it : Int), .int .u32 (am.qty : Int)] 86) = wx at HVX HBX HBS HGB
         generalize w6.heap.size = g8 at HGB
         refine held_appendG 9 79 53 86 2 8 info86 und53 rfl (by decide) (by decide) rfl rfl (by kernel_rfl) (by kernel_rfl) rfl rfl rfl HVX.out.own HGB.out rfl (by intro u hu; simp only [List.mem_cons,List.not_mem_nil,or_false] at hu; rcases hu with rfl | rfl <;> rfl) (by omega) HBS.out (fun a3 cap3 w9 ho9 hk9 hl9=>?_)
         have hno : ∀ g, g < B → ¬ At a2 g := fun g hg ⟨ad, e, e2⟩ => by have := (HVX.out.own.lt ad e).1; omega
         have hlt3 := HVX.out.lt
         have hm9 : MpF w9 31 m cnt f := HVX.out.mp.kept hk9 (hno _ (by omega))
         have hv9 := HVX.out.view.kept hk9 (hno _ (by omega))
         have hb9 : Below w.heap.size w w9 := HBX.out.trans (hk9.below HBX.out.size (fun i e => by obtain ⟨ad, e1, e2⟩ := e; have := (HVX.out.own.lt ad e1).1; have := HWB.out; omega))
         have hks : Kept (fun i => i = v) w9 (w9.setCell ⟨v, 1, none⟩ (.slice a3 (j + 1) cap3)) := Kept.setCell w9 ⟨v, 1, none⟩ _
         have HVN := Lib.hid (HVX.out.more (i := it) HIT.out hk9 (by have e : clineCs c s.es it = [.int .u16 (it : Int), .int .u32 (am.qty : Int)] := (by unfold clineCs; rw [HQ.out]); rw [e]; exact ho9))
         have HBN : Hid (Below w.heap.size w (w9.setCell ⟨v, 1, none⟩ (.slice a3 (j + 1) cap3))) := Lib.hid (hb9.trans (hks.below hb9.size (fun i e => by rw [e]; exact HGV.out)))
         have HBN2 : Hid (B ≤ (w9.setCell ⟨v, 1, none⟩ (.slice a3 (j + 1) cap3)).heap.size) := Lib.hid (Nat.le_trans HBS.out (Nat.le_trans hk9.size hks.size))
         have hm10 : MpF (w9.setCell ⟨v, 1, none⟩ (.slice a3 (j + 1) cap3)) 31 m cnt f := HVN.out.mp
         refine ⟨hm9, ?_⟩
         simp only [Act.put, ap1, ap2, ap3]
         refine held_exec 10 80 (.pointer (some ⟨v,1,none⟩)) rfl rfl (by kernel_rfl) (by kernel_rfl) (by kernel_rfl) hm9 ?_;simp only [Act.put,ap1,ap2,ap3]
         refine held_void 11 rfl rfl (by kernel_rfl) (by kernel_rfl) (exec_stSl rfl rfl rfl hv9 (by show 1 < 4; omega)) hm10 ?_
         clear hno hlt3 hm9 hv9 hb9 hks hm10 ho9 hk9 hl9
         refine wpAnyH_done (by kernel_rfl) ?_ _
         go_wp2_with fail
         go_roundw
         case rel => exact ⟨j + 1, cap3, a3, by go_num, hlt, HVN, HBN, HBN2⟩
         case measure => simp [numI]; omega
        ·simp only [Act.put, ap1, ap2, ap3]
         refine held_exec 1 71 (.slice a2 j cap2) rfl rfl (by kernel_rfl) (by kernel_rfl) (exec_cell rfl rfl (load_cell (by kernel_rfl) HL7.out)) (hS.below (below_one w6 _)) ?_;simp only [Act.put,ap1,ap2,ap3]
         clear HL7
         have HVX := Lib.hid (HVQ.out.below (below_one w6 (.cells #[.int .u16 (it : Int), .int .u32 (am.qty : Int)] 86)))
         have HBX : Hid (Below w.heap.size w (w6.alloc (.cells #[.int .u16 (it : Int), .int .u32 (am.qty : Int)] 86))) := Lib.hid (HBQ.out.trans ((below_one w6 _).mono HBQ.out.size))
         have HBS : Hid (B ≤ (w6.alloc (.cells #[.int .u16 (it : Int), .int .u32 (am.qty : Int)] 86)).heap.size) := Lib.hid (by have := HBZ.out; simp; omega)
         have HGB : Hid (Blk (w6.alloc (.cells #[.int .u16 (it : Int), .int .u32 (am.qty : Int)] 86)) w6.heap.size 86 #[.int .u16 (it : Int), .int .u32 (am.qty : Int)]) := Lib.hid (Blk.new w6 86 _)
         generalize w6.alloc (.cells #[.int .u16 (it : Int), .int .u32 (am.qty : Int)] 86) = wx at HVX HBX HBS HGB
         generalize w6.heap.size = g8 at HGB
         refine held_appendG 9 79 53 86 2 8 info86 und53 rfl (by decide) (by decide) rfl rfl (by kernel_rfl) (by kernel_rfl) rfl rfl rfl HVX.out.own HGB.out rfl (by intro u hu; simp only [List.mem_cons,List.not_mem_nil,or_false] at hu; rcases hu with rfl | rfl <;> rfl) (by omega) HBS.out (fun a3 cap3 w9 ho9 hk9 hl9=>?_)
         have hno : ∀ g, g < B → ¬ At a2 g := fun g hg ⟨ad, e, e2⟩ => by have := (HVX.out.own.lt ad e).1; omega
         have hlt3 := HVX.out.lt
         have hm9 : MpF w9 31 m cnt f := HVX.out.mp.kept hk9 (hno _ (by omega))
         have hv9 := HVX.out.view.kept hk9 (hno _ (by omega))
         have hb9 : Below w.heap.size w w9 := HBX.out.trans (hk9.below HBX.out.size (fun i e => by obtain ⟨ad, e1, e2⟩ := e; have := (HVX.out.own.lt ad e1).1; have := HWB.out; omega))
         have hks : Kept (fun i => i = v) w9 (w9.setCell ⟨v, 1, none⟩ (.slice a3 (j + 1) cap3)) := Kept.setCell w9 ⟨v, 1, none⟩ _
         have HVN := Lib.hid (HVX.out.more (i := it) HIT.out hk9 (by have e : clineCs c s.es it = [.int .u16 (it : Int), .int .u32 (am.qty : Int)] := (by unfold clineCs; rw [HQ.out]); rw [e]; exact ho9))
         have HBN : Hid (Below w.heap.size w (w9.setCell ⟨v, 1, none⟩ (.slice a3 (j + 1) cap3))) := Lib.hid (hb9.trans (hks.below hb9.size (fun i e => by rw [e]; exact HGV.out)))
         have HBN2 : Hid (B ≤ (w9.setCell ⟨v, 1, none⟩ (.slice a3 (j + 1) cap3)).heap.size) := Lib.hid (Nat.le_trans HBS.out (Nat.le_trans hk9.size hks.size))
         have hm10 : MpF (w9.setCell ⟨v, 1, none⟩ (.slice a3 (j + 1) cap3)) 31 m cnt f := HVN.out.mp
         refine ⟨hm9, ?_⟩
         simp only [Act.put, ap1, ap2, ap3]
         refine held_exec 10 80 (.pointer (some ⟨v,1,none⟩)) rfl rfl (by kernel_rfl) (by kernel_rfl) (by kernel_rfl) hm9 ?_;simp only [Act.put,ap1,ap2,ap3]
         refine held_void 11 rfl rfl (by kernel_rfl) (by kernel_rfl) (exec_stSl rfl rfl rfl hv9 (by show 1 < 4; omega)) hm10 ?_
         clear hno hlt3 hm9 hv9 hb9 hks hm10 ho9 hk9 hl9
         refine wpAnyH_done (by kernel_rfl) ?_ _
         go_wp2_with fail
         go_roundw
         case rel => exact ⟨j + 1, cap3, a3, by go_num, hlt, HVN, HBN, HBN2⟩
         case measure => simp [numI]; omega
      ·obtain rfl : j = nk := by omega
       go_wp2_with (refine wpList_stop55 rfl ?_)
       refine ⟨?_⟩
       refine wpList_run rfl (exec_load55 rfl rfl HV.out.view) ?_
       refine wpList_void rfl rfl (exec_store55 rfl rfl rfl HV.out.res) ?_
       have hkr := Kept.setRow wr r (viewV c (.slice a2 j cap2) (coutTo c s.es s.es.length) T)
       have HRB : Hid (Blk (wr.setRow r (viewV c (.slice a2 j cap2) (coutTo c s.es s.es.length) T)) r 55 (viewV c (.slice a2 j cap2) (coutTo c s.es s.es.length) T)) := Lib.hid (HV.out.res.row)
       have HE : Hid (CViewP s c w (.returned (.agg (viewV c (.slice a2 j cap2) (coutTo c s.es s.es.length) T))) (wr.setRow r (viewV c (.slice a2 j cap2) (coutTo c s.es s.es.length) T))) := Lib.hid (.inl ⟨HRT.out, ss, a2, cap2, HI.out, by rw [HNK.out, HTT.out], by
        have h := (HV.out.own.keep hkr (fun ad e => by have := (HV.out.own.lt ad e).1; have := HV.out.lt; omega)).mono HWB.out
        rw [List.take_of_length_le (by rw [HNK.out]; exact Nat.le_refl _)] at h
        rw [HNK.out]
        exact h, HB.out.trans (hkr.below HB.out.size (fun i e => by have := HRR.out; omega))⟩)
       generalize wr.setRow r (viewV c (.slice a2 j cap2) (coutTo c s.es s.es.length) T) = wz at HRB HE
       clear hkr
       go_wp2_with fail
       exact bodyPost_ret (ret55 rfl rfl HRB.out) rfl HE.out
end Go.Proofs.YtnekpgmgnepdoaaGreat
