import Derived.Laws.MakeOwn
import Derived.Test.YtnekpgmgnepdoaaGreatZas
section
namespace Go.Proofs.YtnekpgmgnepdoaaGreat
open Go.RowKit Go.Maps
theorem tk_at {c : Nat} : ∀ {l : List La}, (l.Pairwise fun a b => a.c < b.c) → ∀ {k : Nat} {y : La}, l[k]? = some y → y.c = c → tkOf l c = some y.t
 | [], _, _, _, h, _ => by simp at h
 | z :: l, hp, 0, y, h, hc => by
  obtain rfl : z = y := by simpa using h
  rw [tkOf_cons, if_pos hc]
 | z :: l, hp, k + 1, y, h, hc => by
  obtain ⟨h1, h2⟩ := List.pairwise_cons.1 hp
  have hy : l[k]? = some y := by simpa using h
  have := h1 y (List.mem_of_getElem? hy)
  rw [tkOf_cons, if_neg (by omega)]
  exact tk_at h2 hy hc
structure Vx (w W : World) (s : Sta) (ps r v : Nat) (a : Option Addr) (n c0 : Nat) (b : Option Addr) (m0 d0 c : Nat) : Prop where
 st : Blk W ps 39 (sv s.v a n c0 b m0 d0)
 res : Blk W r 55 (viewV 0 (.slice none 0 0) false 0)
 view : Blk W v 55 (viewV c (.slice none 0 0) false 0)
 old : Below w.heap.size w W
theorem Vx.below {w W W' : World} {s : Sta} {ps r v : Nat} {a : Option Addr} {n c0 : Nat} {b : Option Addr} {m0 d0 c : Nat} (h : Vx w W s ps r v a n c0 b m0 d0 c) (hb : Below W.heap.size W W') : Vx w W' s ps r v a n c0 b m0 d0 c := ⟨h.st.below hb, h.res.below hb, h.view.below hb, h.old.trans (hb.mono h.old.size)⟩
theorem vx_new (w : World) (s : Sta) (a : Option Addr) (n c0 : Nat) (b : Option Addr) (m0 d0 c : Nat) : Vx w (((w.alloc (.cells (sv s.v a n c0 b m0 d0) 39)).alloc (.cells #[.int .u16 0, .slice none 0 0, .bool false, .int .u32 0] 55)).alloc (.cells #[.int .u16 (c : Int), .slice none 0 0, .bool false, .int .u32 0] 55)) s w.heap.size (w.heap.size + 1) (w.heap.size + 1 + 1) a n c0 b m0 d0 c := by
 have h1 := Blk.new w 39 (sv s.v a n c0 b m0 d0)
 have h2 := Blk.new (w.alloc (.cells (sv s.v a n c0 b m0 d0) 39)) 55 #[.int .u16 0, .slice none 0 0, .bool false, .int .u32 0]
 have h3 := Blk.new ((w.alloc (.cells (sv s.v a n c0 b m0 d0) 39)).alloc (.cells #[.int .u16 0, .slice none 0 0, .bool false, .int .u32 0] 55)) 55 #[.int .u16 (c : Int), .slice none 0 0, .bool false, .int .u32 0]
 have b2 := below_one (w.alloc (.cells (sv s.v a n c0 b m0 d0) 39)) (.cells #[.int .u16 0, .slice none 0 0, .bool false, .int .u32 0] 55)
 have b3 := below_one ((w.alloc (.cells (sv s.v a n c0 b m0 d0) 39)).alloc (.cells #[.int .u16 0, .slice none 0 0, .bool false, .int .u32 0] 55)) (.cells #[.int .u16 (c : Int), .slice none 0 0, .bool false, .int .u32 0] 55)
 simp only [World.size_alloc] at h2 h3
 exact ⟨(h1.below b2).below b3, h2.below b3, h3, ((below_one w _).trans (b2.mono (by simp))).trans (b3.mono (by simp; omega))⟩
set_option maxRecDepth 100000 in
set_option maxHeartbeats 16000000 in
theorem view_any {s : Sta} {a b : Option Addr} {n c0 m0 d0 : Nat} {w : World} (hl : SL w s a n b m0) (hn : n < 100) (hm0 : m0 < 200000) (c : Nat) (hc16 : c < 65536) : Calls Tryz.prog 24 #[.agg (sv s.v a n c0 b m0 d0), .int .u16 (c : Int)] w (CViewP s c w) := by
 obtain ⟨zo, ho⟩ : ∃ z, En.zero = z := ⟨_, rfl⟩
 have HO := Lib.hid ho
 have HL := Lib.hid hl
 have HNN := Lib.hid hl.es.len'
 have HTN := Lib.hid hl.ts.len'
 have hb1 := fun (v : V) x y w => box39 v x y w
 have HX0 := Lib.hid (vx_new w s a n c0 b m0 d0 c)
 clear ho hl
 go_enter Tryz.func24, Tryz.ntmps24
 go_upto_region 2 with fail
 clear hb1
 generalize ((w.alloc (.cells (sv s.v a n c0 b m0 d0) 39)).alloc (.cells #[.int .u16 0, .slice none 0 0, .bool false, .int .u32 0] 55)).alloc (.cells #[.int .u16 (c : Int), .slice none 0 0, .bool false, .int .u32 0] 55) = w0 at HX0
 obtain ⟨ps, hps⟩ : ∃ p, w.heap.size = p := ⟨_, rfl⟩
 obtain ⟨r, hr⟩ : ∃ p, ps + 1 = p := ⟨_, rfl⟩
 obtain ⟨v, hv⟩ : ∃ p, r + 1 = p := ⟨_, rfl⟩
 have HPS : Hid (w.heap.size = ps ∧ ps + 1 = r ∧ r + 1 = v) := Lib.hid ⟨hps, hr, hv⟩
 rw [hps, hr, hv] at HX0
 rw [hps, hr, hv]
 clear hps hr hv
 have HRR : Hid (w.heap.size ≤ r) := Lib.hid (by have := HPS.out; omega)
 have HGV0 : Hid (w.heap.size ≤ v) := Lib.hid (by have := HPS.out; omega)
 go_wp2_with (refine wpList_run rfl (exec_load39 rfl rfl HX0.out.st) ?_)
 refine (right_any' (HL.out.below HX0.out.old) hn (by omega)).mono ?_
 rintro e w1 ⟨q, rfl, hq, hb⟩
 have HX := Lib.hid (HX0.out.below hb)
 clear hb HX0
 cases q
 ·have HNR : Hid (¬ s.Right) := Lib.hid (fun h => by have := hq.2 h; cases this)
  clear hq
  go_wp2_with (refine wpList_stop55 rfl ?_)
  refine ⟨?_⟩
  refine wpList_run rfl (exec_load55 rfl rfl HX.out.view) ?_
  refine wpList_void rfl rfl (exec_store55 rfl rfl rfl HX.out.res) ?_
  have hkr := Kept.setRow w1 r (viewV c (.slice none 0 0) false 0)
  have HRB : Hid (Blk (w1.setRow r (viewV c (.slice none 0 0) false 0)) r 55 (viewV c (.slice none 0 0) false 0)) := Lib.hid HX.out.res.row
  have HE : Hid (CViewP s c w (.returned (.agg (viewV c (.slice none 0 0) false 0))) (w1.setRow r (viewV c (.slice none 0 0) false 0))) := Lib.hid (.inr ⟨HNR.out, rfl, HX.out.old.trans (hkr.below HX.out.old.size (fun i e => by have := HRR.out; omega))⟩)
  generalize w1.setRow r (viewV c (.slice none 0 0) false 0) = wz at HRB HE
  clear hkr
  go_wp2_with fail
  exact bodyPost_ret (ret55 rfl rfl HRB.out) rfl HE.out
 ·have HRT := Lib.hid (hq.1 rfl)
  clear hq
  obtain ⟨T, hT⟩ : ∃ T, (tkOf s.ts c).getD 0 = T := ⟨_, rfl⟩
  have HTT := Lib.hid hT
  clear hT
  have c17 := stc17 HX.out.st
  go_wp2_with fail
  clear c17
  refine (tickIndex_any (HL.out.ts.below HX.out.old) (by omega) HRT.out.ts.up c).mono ?_
  rintro e w2 ⟨rfl, hg⟩
  have HX2 := Lib.hid (HX.out.below hg.below)
  clear hg HX
  obtain ⟨fn, hfn⟩ : ∃ fn, (tkOf s.ts c).isSome = fn := ⟨_, rfl⟩
  have HFN := Lib.hid hfn
  rw [hfn]
  clear hfn
  obtain ⟨ix, hix⟩ : ∃ ix, tkIx s.ts c = ix := ⟨_, rfl⟩
  have HIX := Lib.hid hix
  rw [hix]
  clear hix
  have c16 := stc16 HX2.out.st
  cases fn
  case' false =>
   have HT0 : Hid (T = 0) := Lib.hid (by have h1 := HFN.out; have h2 := HTT.out; cases h : tkOf s.ts c with
    | none => rw [h] at h2; exact h2.symm
    | some t => rw [h] at h1; cases h1)
   have HV0 : Hid (Blk w2 v 55 (viewV c (.slice none 0 0) false T)) := Lib.hid (by rw [HT0.out]; exact HX2.out.view)
   have HR0 := Lib.hid HX2.out.res
   have HB0 := Lib.hid HX2.out.old
   have HS0 := Lib.hid HX2.out.st
   clear HT0
   go_upto_region 7 with fail
   clear HX2 c16
   generalize w2 = w5 at HV0 HR0 HB0 HS0
  case' true =>
   have hex := (tkOf_some (l := s.ts) (c := c)).1 HFN.out
   obtain ⟨y, hy, hyc, hset⟩ := ticked_old (x := ⟨c, 0, hc16, by omega⟩) HRT.out.ts.up hex (k := ix) HIX.out
   have HYT : Hid (T = y.t) := Lib.hid (by have := tk_at HRT.out.ts.up hy hyc; rw [← HTT.out, this]; rfl)
   have hixm : ix < m0 := by have := (List.getElem?_eq_some_iff.1 hy).1; have := HTN.out; omega
   obtain ⟨g, off, y', rfl, hy', hrw⟩ := LL.at (HL.out.ts.below HX2.out.old) hixm
   obtain rfl := Option.some.inj (hy'.symm.trans hy)
   have ce : w2.cell? ⟨g, off + ix * 2 + 1, none⟩ = some (.int .u32 (y'.t : Int)) := hrw 1 _ rfl
   have c17 := stc17 HX2.out.st
   have ct : w2.cell? ⟨v, 3, none⟩ = some (.int .u32 0) := by rw [HX2.out.view.cell]; rfl
   have ft : w2.frozen? ⟨v, 3, none⟩ = false := HX2.out.view.frozen 3
   have hks := Kept.setCell w2 ⟨v, 3, none⟩ (.int .u32 (y'.t : Int))
   have HV0 : Hid (Blk (w2.setCell ⟨v, 3, none⟩ (.int .u32 (y'.t : Int))) v 55 (viewV c (.slice none 0 0) false T)) := Lib.hid (by rw [HYT.out]; exact HX2.out.view.set 3 (.int .u32 (y'.t : Int)))
   have HR0 : Hid (Blk (w2.setCell ⟨v, 3, none⟩ (.int .u32 (y'.t : Int))) r 55 (viewV 0 (.slice none 0 0) false 0)) := Lib.hid (HX2.out.res.kept hks (by have := HPS.out; simp only; omega))
   have HB0 : Hid (Below w.heap.size w (w2.setCell ⟨v, 3, none⟩ (.int .u32 (y'.t : Int)))) := Lib.hid (HX2.out.old.trans (hks.below HX2.out.old.size (fun i e => by have := HGV0.out; simp only at e; omega)))
   have HS0 : Hid (Blk (w2.setCell ⟨v, 3, none⟩ (.int .u32 (y'.t : Int))) ps 39 (sv s.v a n c0 (some ⟨g, off, none⟩) m0 d0)) := Lib.hid (HX2.out.st.kept hks (by have := HPS.out; simp only; omega))
   clear hset hy hyc hy' hrw hex hks HYT
   go_upto_region 7 with (refine wpList_run rfl (exec_idx96 (i := ix) rfl rfl rfl rfl hixm) ?_)
   clear HX2 c16 c17 ct ft ce
   generalize w2.setCell ⟨v, 3, none⟩ (.int .u32 (y'.t : Int)) = w5 at HV0 HR0 HB0 HS0
  all_goals
   have hmm := @run_makeMap Tryz.prog
   have c16 : (w5.alloc (.map #[] 0)).cell? ⟨ps, 16, none⟩ = some (.slice a n c0) := stc16 (HS0.out.below (below_one w5 _))
   have HV3 : Hid (Vs (w5.alloc (.map #[] 0)) r v w5.heap.size c s.es 0 T 0 (fun _ => none)) := Lib.hid ⟨HR0.out.below (below_one w5 _), HV0.out.below (below_one w5 _), mpF_new w5 31, Nat.le_refl _, fun _ _ => rfl, by have := HV0.out.lt; have := HPS.out; omega⟩
   have HB3 : Hid (Below w.heap.size w (w5.alloc (.map #[] 0))) := Lib.hid (HB0.out.trans ((below_one w5 _).mono HB0.out.size))
   have HM : Hid (v < w5.heap.size) := Lib.hid HV0.out.lt
   clear HS0 HV0 HR0 HB0
   go_upto_region 9 with fail
   clear hmm c16
   generalize w5.alloc (.map #[] 0) = w6 at HV3 HB3
   generalize w5.heap.size = m at HV3 HM
   go_loopw [38] (VwR w r v m n c T s.es) (fun u _ => n - (numI u).toNat)
   case atStart => exact ⟨0, 0, _, rfl, Nat.zero_le _, HV3, HB3⟩
   case round =>
    obtain ⟨k, cnt, f, rfl, hk, HS, HB⟩ := hrel
    clear HV3 HB3
    by_cases hlt : k < n
    ·obtain ⟨g2, off2, x, rfl, hx, hrw⟩ := EL.at (HL.out.es.below HB.out) hlt
     have HX := Lib.hid hx
     have HR := Lib.hid hrw
     clear hx hrw
     go_wp2_with (first | (refine wpList_run rfl (exec_idx72 (i := k) rfl rfl rfl rfl hlt) ?_) | (refine wpList_run rfl (exec_ld72 (p := x) rfl rfl HR.out) ?_) | (refine wpList_run rfl (exec_alloc72z HO.out rfl) ?_) | (refine wpList_stop72 rfl ?_))
     refine ⟨?_⟩
     refine wpList_void rfl rfl (exec_store72 (p := zo) (u := x) rfl rfl rfl (Blk.new wr 72 zo.arr)) ?_
     have hbo := bo_laid wr 72 zo.arr x.arr
     have HT5 := Lib.hid (HS.out.below hbo.old)
     have HB5 : Hid (Below w.heap.size w ((wr.alloc (.cells zo.arr 72)).setRow wr.heap.size x.arr)) := Lib.hid (HB.out.trans (hbo.old.mono HB.out.size))
     have HP5 := Lib.hid hbo.one
     have HPM : Hid (¬ wr.heap.size = m) := Lib.hid (fun e => by have := HS.out.mp.lt; omega)
     clear hbo HS HB HR
     generalize (wr.alloc (.cells zo.arr 72)).setRow wr.heap.size x.arr = w5 at HT5 HB5 HP5
     generalize wr.heap.size = p at HP5 HPM
     have e0 := ent0 HP5.out
     have e3 := ent3 HP5.out
     by_cases hcc : x.c = c
     ·have q1 := eqB' hcc
      have HC := Lib.hid hcc
      clear hcc
      by_cases h4 : x.k = 4
      ·have q4 : ((x.k : Int) == 4) = true := by simp; omega
       have fo : w5.frozen? ⟨v, 2, none⟩ = false := HT5.out.view.frozen 2
       have co : w5.cell? ⟨v, 2, none⟩ = some (.bool (coutTo c s.es k)) := by rw [HT5.out.view.cell]; rfl
       have HE := Lib.hid (HT5.out.out HX.out HC.out h4)
       have HBE := Lib.hid (HB5.out.trans ((Kept.setCell w5 ⟨v, 2, none⟩ (.bool true)).below HB5.out.size (fun j e => by rw [e]; exact HGV0.out)))
       clear h4
       go_wp2_with fail
       go_roundw
       case rel => exact ⟨k + 1, cnt, f, by go_num, hlt, HE, HBE⟩
       case measure => simp [numI]; omega
      ·have q4 : ((x.k : Int) == 4) = false := by simp; omega
       have H4 := Lib.hid h4
       clear h4
       go_upto_region 11 with fail
       clear q4 q1 e0 e3
       obtain ⟨am, ham⟩ : ∃ am, (camTo c s.es k x.i).getD Ac.zero = am := ⟨_, rfl⟩
       have HAM := Lib.hid ham
       clear ham
       have HGM : Hid (w.heap.size ≤ m) := Lib.hid (by have := HGV0.out; have := HM.out; omega)
       refine wp_region_held_drew (S := fun w' => Blk w' p 72 x.arr) (by kernel_rfl) (HP5.out.below (drew_below _)) (fun hS => ?_)
       refine held_tk 0 42 (.map (some m)) rfl rfl (by kernel_rfl) (fun _ _ _ h => h) (fun _ _ => rfl) hS ?_
       simp only [Act.put, ap1, ap2, ap3]
       refine held_tk 1 43 (.pointer (some ⟨p, 1, none⟩)) rfl rfl (by kernel_rfl) (fun _ _ _ h => h) (fun _ _ => (by kernel_rfl)) hS ?_
       simp only [Act.put, ap1, ap2, ap3]
       refine held_tk 2 44 (.int .u16 (x.i : Int)) rfl rfl (by kernel_rfl) (fun _ _ _ h => h) (fun _ h => exec_cell rfl rfl (load_cell (by kernel_rfl) (ent1 h))) hS ?_
       simp only [Act.put, ap1, ap2, ap3]
       refine held_tk 3 45 (.map (some m)) rfl rfl (by kernel_rfl) (fun _ _ _ h => h) (fun _ _ => rfl) hS ?_
       simp only [Act.put, ap1, ap2, ap3]
       refine held_tk 4 46 (.pointer (some ⟨p, 1, none⟩)) rfl rfl (by kernel_rfl) (fun _ _ _ h => h) (fun _ _ => (by kernel_rfl)) hS ?_
       simp only [Act.put, ap1, ap2, ap3]
       refine held_tk 5 47 (.int .u16 (x.i : Int)) rfl rfl (by kernel_rfl) (fun _ _ _ h => h) (fun _ h => exec_cell rfl rfl (load_cell (by kernel_rfl) (ent1 h))) hS ?_
       simp only [Act.put, ap1, ap2, ap3]
       refine held_tk 7 49 (.agg x.arr) rfl rfl (by kernel_rfl) (fun _ _ _ h => h) (fun _ h => exec_load72 (p := x) rfl rfl h) hS ?_
       simp only [Act.put, ap1, ap2, ap3]
       refine held_exec 6 48 (.agg am.arr) rfl rfl (by kernel_rfl) (by kernel_rfl) (exec_lookAc rfl rfl rfl (HT5.out.mp.below (drew_below _)) x.hi (HT5.out.val x.i x.hi) HAM.out) hS ?_
       simp only [Act.put, ap1, ap2, ap3]
       refine held_callP 8 50 62 #[.agg am.arr, .agg x.arr] rfl (by kernel_rfl) rfl (by kernel_rfl) (by kernel_rfl) (cwith_any am x _) (fun e w6 hP => ?_)
       obtain ⟨rfl, hb6⟩ := hP
       have HT6 : Hid (Vs w6 r v m c s.es k T cnt f) := Lib.hid ((HT5.out.below (drew_below _)).below hb6)
       have HB6 : Hid (Below w.heap.size w w6) := Lib.hid (HB5.out.drew.trans (hb6.mono HB5.out.size))
       refine ⟨_, rfl, hS.below hb6, fun hS => ?_⟩
       simp only [Act.put, ap1, ap2, ap3]
       obtain ⟨w7, hrun, hmp7, hk7⟩ := HT6.out.mp.put law31 und114 (by have := HT6.out.cnt; omega) (v := .agg (am.with x).arr) (key31 x.hi)
       refine held_void 9 rfl rfl (by kernel_rfl) (by kernel_rfl) (exec_upd rfl rfl rfl rfl hrun) (hS.kept hk7 HPM.out) ?_
       obtain ⟨cnt', f', hv7⟩ := HT6.out.put HX.out HC.out H4.out hk7 (by rw [HAM.out]; exact hmp7)
       have HV7 := Lib.hid hv7
       have HB7 : Hid (Below w.heap.size w w7) := Lib.hid (HB6.out.trans (hk7.below HB6.out.size (fun j e => by rw [e]; exact HGM.out)))
       clear hv7 hrun hmp7 hk7 hb6
       refine wpAnyH_done (by kernel_rfl) ?_ _
       go_wp2_with fail
       go_roundw
       case rel => exact ⟨k + 1, cnt', f', by go_num, hlt, HV7, HB7⟩
       case measure => simp [numI]; omega
     ·have q1 := neB hcc
      have HE := Lib.hid (HT5.out.skip HX.out hcc)
      clear hcc
      go_wp2_with fail
      go_roundw
      case rel => exact ⟨k + 1, cnt, f, by go_num, hlt, HE, HB5⟩
      case measure => simp [numI]; omega
    ·obtain rfl : k = n := by omega
     clear hlt hk
     go_wp2_with fail
     refine (keys_any _ _).mono ?_
     rintro e wk ⟨rfl, rfl⟩
     go_wp2_with fail
     have HSK : Hid (Vs (wr.alloc (.cells #[.map (some m)] 114)) r v m c s.es k T cnt f) := Lib.hid (HS.out.below (below_one wr _))
     have hck : (wr.alloc (.cells #[.map (some m)] 114)).cell? ⟨wr.heap.size, 0, none⟩ = some (.map (some m)) := by rw [(Blk.new wr 114 #[.map (some m)]).cell]; rfl
     have hsz : wr.heap.size < (wr.alloc (.cells #[.map (some m)] 114)).heap.size := by simp
     have HBK : Hid (Below w.heap.size w (wr.alloc (.cells #[.map (some m)] 114))) := Lib.hid (HB.out.trans ((below_one wr _).mono HB.out.size))
     have HKC := Lib.hid (sorted_any (by have := HS.out.cnt; omega) hsz hck HSK.out.mp)
     clear hck hsz HS HB
     generalize wr.alloc (.cells #[.map (some m)] 114) = wk at HSK HBK HKC
     refine HKC.out.mono ?_
     rintro e w8 ⟨ak, capk, ss, rfl, hup, hmem, hou, hb8⟩
     have HI : Hid (CItems c s.es ss) := Lib.hid ⟨hup, fun i => by
      rw [hmem i]
      constructor
      ·rintro ⟨h1, h2⟩
       have := HSK.out.val i h1
       rw [this] at h2
       rw [HNN.out]
       exact ⟨h1, by simpa using h2⟩
      ·rintro ⟨h1, h2⟩
       refine ⟨h1, ?_⟩
       rw [HSK.out.val i h1]
       rw [HNN.out] at h2
       simpa using h2⟩
     have HS8 := Lib.hid (HSK.out.below hb8)
     have HB8 : Hid (Below w.heap.size w w8) := Lib.hid (HBK.out.trans (hb8.mono HBK.out.size))
     obtain ⟨nk, hnk⟩ : ∃ nk, ss.length = nk := ⟨_, rfl⟩
     have HNK := Lib.hid hnk
     rw [hnk] at hou ⊢
     have HV8 : Hid (Vl w8 w8.heap.size r v m ak nk none 0 0 c T s.es ss cnt f) := Lib.hid ⟨HS8.out.res, by rw [HNN.out]; exact HS8.out.view, HS8.out.mp, (ownG_of hou).gl, by simpa using ownG_nil _ _ _ _, ⟨HS8.out.apart.1, HS8.out.apart.2, HS8.out.mp.lt⟩, fun ad e => ⟨(hou.lt ad e).2, Nat.lt_of_lt_of_le HSK.out.mp.lt (hou.lt ad e).1⟩⟩
     have HVAL : Hid (∀ i, i < 65536 → f (litK i) = (camTo c s.es s.es.length i).map fun x => .agg x.arr) := Lib.hid (fun i hi => by rw [HNN.out]; exact HS8.out.val i hi)
     have HB9 : Hid (w8.heap.size ≤ w8.heap.size) := Lib.hid (Nat.le_refl _)
     have HGV : Hid (w.heap.size ≤ v) := HGV0
     have hnk63 : nk < 100 := by
      have h1 := keys_le HSK.out.mp ⟨List.nodup_iff_pairwise_ne.2 (hup.imp fun h => by omega), hmem⟩
      have := HSK.out.cnt
      omega
     clear hnk hup hmem hou hb8 HS8 HSK HBK HKC
     go_wp2_with fail
     obtain ⟨B, hB⟩ : ∃ B, w8.heap.size = B := ⟨_, rfl⟩
     have HWB : Hid (w.heap.size ≤ B) := Lib.hid (by rw [← hB]; exact HB8.out.size)
     rw [hB] at HV8 HB9
     have HBB : Hid (B ≤ w8.heap.size) := Lib.hid (by omega)
     clear hB HB9
     go_loopw [66] (VlR w B r v m ak nk c T s.es ss cnt f) (fun u _ => nk - (numI u).toNat)
     case atStart => exact ⟨0, 0, none, rfl, Nat.zero_le _, HV8, HB8, HBB⟩
     case round =>
      obtain ⟨j, cap2, a2, rfl, hj, HV, HB, HBW⟩ := hrel
      clear HV8 HB8 HBB
      by_cases hlt : j < nk
      ·have hjss : j < ss.length := by rw [HNK.out]; exact hlt
       obtain ⟨it, hit⟩ : ∃ it, ss[j]? = some it := ⟨_, List.getElem?_eq_getElem hjss⟩
       have HIT := Lib.hid hit
       have HI6 : Hid (it < 65536) := Lib.hid ((HI.out.mem it).1 (List.mem_of_getElem? hit)).1
       obtain ⟨gk, ok, hak, hkc⟩ : ∃ b off, ak = some ⟨b, off, none⟩ ∧ wr.cell? ⟨b, off + j, none⟩ = some (.int .u16 (it : Int)) := by
        rcases HV.out.keys.cells with h0 | ⟨b, off, ha, hc⟩
        ·omega
        ·have := hc j [encK it] (by simp [ones, hit]) 0 (encK it) rfl
         rw [Nat.mul_one, Nat.add_zero] at this
         exact ⟨b, off, ha, this⟩
       subst hak
       clear hit
       go_upto_region 19 with fail
       clear hkc
       obtain ⟨am, ham⟩ : ∃ am, (camTo c s.es s.es.length it).getD Ac.zero = am := ⟨_, rfl⟩
       have HQ : Hid (cqtyAt c s.es it = am.qty) := Lib.hid (by unfold cqtyAt; rw [ham])
       have HAM := Lib.hid ham
       have hl8 : wr.cell? ⟨v, 1, none⟩ = some (.slice a2 j cap2) := by rw [HV.out.view.cell]; rfl
       have HL8 := Lib.hid hl8
       clear ham hl8
       refine wp_region_held_drew (S := fun w' => MpF w' 31 m cnt f) (by kernel_rfl) (HV.out.mp.below (drew_below _)) (fun hS => ?_)
       refine held_tk 0 70 (.pointer (some ⟨v, 1, none⟩)) rfl rfl (by kernel_rfl) (fun _ _ _ h => h) (fun _ _ => (by kernel_rfl)) hS ?_
       simp only [Act.put, ap1, ap2, ap3]
       refine held_tk 2 72 (.int .u16 (it : Int)) rfl rfl (by kernel_rfl) (fun _ _ _ h => h) (fun _ _ => rfl) hS ?_
       simp only [Act.put, ap1, ap2, ap3]
       refine held_tk 3 73 (.map (some m)) rfl rfl (by kernel_rfl) (fun _ _ _ h => h) (fun _ _ => rfl) hS ?_
       simp only [Act.put, ap1, ap2, ap3]
       refine held_tk 4 74 (.int .u16 (it : Int)) rfl rfl (by kernel_rfl) (fun _ _ _ h => h) (fun _ _ => rfl) hS ?_
       simp only [Act.put, ap1, ap2, ap3]
       refine held_tk 5 75 (.agg am.arr) rfl rfl (by kernel_rfl) (fun _ _ _ h => h) (fun _ h => exec_lookAc rfl rfl rfl h HI6.out (HVAL.out it HI6.out) HAM.out) hS ?_
       simp only [Act.put, ap1, ap2, ap3]
       have HVD := Lib.hid (HV.out.below (drew_below wr))
       have HBD : Hid (Below w.heap.size w wr.drew) := Lib.hid HB.out.drew
       have HZD : Hid (B ≤ wr.drew.heap.size) := HBW
       refine wpAnyH_ready (rs := [1, 6]) (by kernel_rfl) (by simp) (br_exec 1 71 (.slice a2 j cap2) rfl rfl (by kernel_rfl) (exec_cell rfl rfl (load_cell (by kernel_rfl) HL8.out)) hS ?_ (br_callP 6 76 65 #[.agg am.arr] rfl rfl (by kernel_rfl) (by kernel_rfl) (cqty_any am _) (fun e w6 hP => ?_) AllReadyH.nil))
       ·simp only [Act.put, ap1, ap2, ap3]
        refine held_callP 6 76 65 #[.agg am.arr] rfl (by kernel_rfl) rfl (by kernel_rfl) (by kernel_rfl) (cqty_any am _) (fun e w6 hP => ?_)
        obtain ⟨rfl, hb6⟩ := hP
        have HVQ := Lib.hid (HVD.out.below hb6)
        have HBQ : Hid (Below w.heap.size w w6) := Lib.hid (HBD.out.trans (hb6.mono HBD.out.size))
        have HBZ : Hid (B ≤ w6.heap.size) := Lib.hid (Nat.le_trans HZD.out hb6.size)
        refine ⟨_, rfl, HVQ.out.mp, fun hS => ?_⟩
        simp only [Act.put, ap1, ap2, ap3]
        refine held_tk 7 77 (.agg #[.int .u16 (it : Int), .int .u32 (am.qty : Int)]) rfl rfl (by kernel_rfl) (fun _ _ _ h => h) (fun _ _ => exec_bldLine (i := it) (n := am.qty) rfl rfl rfl) hS ?_
        simp only [Act.put, ap1, ap2, ap3]
        refine held_exec 8 78 (.slice (some ⟨w6.heap.size, 0, none⟩) 1 1) rfl rfl (by kernel_rfl) (by kernel_rfl) (exec_bsLine (cs := [.int .u16 (it : Int), .int .u32 (am.qty : Int)]) rfl rfl rfl) (hS.below (below_one w6 _)) ?_
        simp only [Act.put, ap1, ap2, ap3]
        have HVX := Lib.hid (HVQ.out.below (below_one w6 (.cells #[.int .u16 (it : Int), .int .u32 (am.qty : Int)] 86)))
        have HBX : Hid (Below w.heap.size w (w6.alloc (.cells #[.int .u16 (it : Int), .int .u32 (am.qty : Int)] 86))) := Lib.hid (HBQ.out.trans ((below_one w6 _).mono HBQ.out.size))
        have HBS : Hid (B ≤ (w6.alloc (.cells #[.int .u16 (it : Int), .int .u32 (am.qty : Int)] 86)).heap.size) := Lib.hid (by have := HBZ.out; simp; omega)
        have HGB : Hid (Blk (w6.alloc (.cells #[.int .u16 (it : Int), .int .u32 (am.qty : Int)] 86)) w6.heap.size 86 #[.int .u16 (it : Int), .int .u32 (am.qty : Int)]) := Lib.hid (Blk.new w6 86 _)
        generalize w6.alloc (.cells #[.int .u16 (it : Int), .int .u32 (am.qty : Int)] 86) = wx at HVX HBX HBS HGB
        generalize w6.heap.size = g8 at HGB
        refine held_appendG 9 79 53 86 2 8 info86 und53 rfl (by decide) (by decide) rfl rfl (by kernel_rfl) (by kernel_rfl) rfl rfl rfl HVX.out.own HGB.out rfl (by intro u hu; simp only [List.mem_cons, List.not_mem_nil, or_false] at hu; rcases hu with rfl | rfl <;> rfl) (by omega) HBS.out (fun a3 cap3 w9 ho9 hk9 hl9 => ?_)
        have hno : ∀ g, g < B → ¬ At a2 g := fun g hg ⟨ad, e, e2⟩ => by have := (HVX.out.own.lt ad e).1; omega
        have hlt3 := HVX.out.lt
        have hm9 : MpF w9 31 m cnt f := HVX.out.mp.kept hk9 (hno _ (by omega))
        have hv9 := HVX.out.view.kept hk9 (hno _ (by omega))
        have hb9 : Below w.heap.size w w9 := HBX.out.trans (hk9.below HBX.out.size (fun i e => by obtain ⟨ad, e1, e2⟩ := e; have := (HVX.out.own.lt ad e1).1; have := HWB.out; omega))
        have hks : Kept (fun i => i = v) w9 (w9.setCell ⟨v, 1, none⟩ (.slice a3 (j + 1) cap3)) := Kept.setCell w9 ⟨v, 1, none⟩ _
        have HVN := Lib.hid (HVX.out.more (i := it) HIT.out hk9 (by have e : clineCs c s.es it = [.int .u16 (it : Int), .int .u32 (am.qty : Int)] := (by unfold clineCs; rw [HQ.out]); rw [e]; exact ho9))
        have HBN : Hid (Below w.heap.size w (w9.setCell ⟨v, 1, none⟩ (.slice a3 (j + 1) cap3))) := Lib.hid (hb9.trans (hks.below hb9.size (fun i e => by rw [e]; exact HGV.out)))
        have HBN2 : Hid (B ≤ (w9.setCell ⟨v, 1, none⟩ (.slice a3 (j + 1) cap3)).heap.size) := Lib.hid (Nat.le_trans HBS.out (Nat.le_trans hk9.size hks.size))
        have hm10 : MpF (w9.setCell ⟨v, 1, none⟩ (.slice a3 (j + 1) cap3)) 31 m cnt f := HVN.out.mp
        refine ⟨hm9, ?_⟩
        simp only [Act.put, ap1, ap2, ap3]
        refine held_exec 10 80 (.pointer (some ⟨v, 1, none⟩)) rfl rfl (by kernel_rfl) (by kernel_rfl) (by kernel_rfl) hm9 ?_
        simp only [Act.put, ap1, ap2, ap3]
        refine held_void 11 rfl rfl (by kernel_rfl) (by kernel_rfl) (exec_stSl rfl rfl rfl hv9 (by show 1 < 4; omega)) hm10 ?_
        clear hno hlt3 hm9 hv9 hb9 hks hm10 ho9 hk9 hl9
        refine wpAnyH_done (by kernel_rfl) ?_ _
        go_wp2_with fail
        go_roundw
        case rel => exact ⟨j + 1, cap3, a3, by go_num, hlt, HVN, HBN, HBN2⟩
        case measure => simp [numI]; omega
       ·obtain ⟨rfl, hb6⟩ := hP
        have HVQ := Lib.hid (HVD.out.below hb6)
        have HBQ : Hid (Below w.heap.size w w6) := Lib.hid (HBD.out.trans (hb6.mono HBD.out.size))
        have HBZ : Hid (B ≤ w6.heap.size) := Lib.hid (Nat.le_trans HZD.out hb6.size)
        have hl6 : w6.cell? ⟨v, 1, none⟩ = some (.slice a2 j cap2) := by rw [HVQ.out.view.cell]; rfl
        have HL6 := Lib.hid hl6
        have HL7 : Hid ((w6.alloc (.cells #[.int .u16 (it : Int), .int .u32 (am.qty : Int)] 86)).cell? ⟨v, 1, none⟩ = some (.slice a2 j cap2)) := Lib.hid (by rw [(HVQ.out.view.below (below_one w6 _)).cell]; rfl)
        clear hl6
        refine ⟨_, rfl, HVQ.out.mp, fun hS => ?_⟩
        simp only [Act.put, ap1, ap2, ap3]
        refine held_tk 7 77 (.agg #[.int .u16 (it : Int), .int .u32 (am.qty : Int)]) rfl rfl (by kernel_rfl) (fun _ _ _ h => h) (fun _ _ => exec_bldLine (i := it) (n := am.qty) rfl rfl rfl) hS ?_
        simp only [Act.put, ap1, ap2, ap3]
        refine wpAnyH_ready (rs := [1, 8]) (by kernel_rfl) (by simp) (br_exec 1 71 (.slice a2 j cap2) rfl rfl (by kernel_rfl) (exec_cell rfl rfl (load_cell (by kernel_rfl) HL6.out)) hS ?_ (br_exec 8 78 (.slice (some ⟨w6.heap.size, 0, none⟩) 1 1) rfl rfl (by kernel_rfl) (exec_bsLine (cs := [.int .u16 (it : Int), .int .u32 (am.qty : Int)]) rfl rfl rfl) (hS.below (below_one w6 _)) ?_ AllReadyH.nil))
        ·simp only [Act.put, ap1, ap2, ap3]
         refine held_exec 8 78 (.slice (some ⟨w6.heap.size, 0, none⟩) 1 1) rfl rfl (by kernel_rfl) (by kernel_rfl) (exec_bsLine (cs := [.int .u16 (it : Int), .int .u32 (am.qty : Int)]) rfl rfl rfl) (hS.below (below_one w6 _)) ?_
         simp only [Act.put, ap1, ap2, ap3]
         have HVX := Lib.hid (HVQ.out.below (below_one w6 (.cells #[.int .u16 (it : Int), .int .u32 (am.qty : Int)] 86)))
         have HBX : Hid (Below w.heap.size w (w6.alloc (.cells #[.int .u16 (it : Int), .int .u32 (am.qty : Int)] 86))) := Lib.hid (HBQ.out.trans ((below_one w6 _).mono HBQ.out.size))
         have HBS : Hid (B ≤ (w6.alloc (.cells #[.int .u16 (it : Int), .int .u32 (am.qty : Int)] 86)).heap.size) := Lib.hid (by have := HBZ.out; simp; omega)
         have HGB : Hid (Blk (w6.alloc (.cells #[.int .u16 (it : Int), .int .u32 (am.qty : Int)] 86)) w6.heap.size 86 #[.int .u16 (it : Int), .int .u32 (am.qty : Int)]) := Lib.hid (Blk.new w6 86 _)
         generalize w6.alloc (.cells #[.int .u16 (it : Int), .int .u32 (am.qty : Int)] 86) = wx at HVX HBX HBS HGB
         generalize w6.heap.size = g8 at HGB
         refine held_appendG 9 79 53 86 2 8 info86 und53 rfl (by decide) (by decide) rfl rfl (by kernel_rfl) (by kernel_rfl) rfl rfl rfl HVX.out.own HGB.out rfl (by intro u hu; simp only [List.mem_cons, List.not_mem_nil, or_false] at hu; rcases hu with rfl | rfl <;> rfl) (by omega) HBS.out (fun a3 cap3 w9 ho9 hk9 hl9 => ?_)
         have hno : ∀ g, g < B → ¬ At a2 g := fun g hg ⟨ad, e, e2⟩ => by have := (HVX.out.own.lt ad e).1; omega
         have hlt3 := HVX.out.lt
         have hm9 : MpF w9 31 m cnt f := HVX.out.mp.kept hk9 (hno _ (by omega))
         have hv9 := HVX.out.view.kept hk9 (hno _ (by omega))
         have hb9 : Below w.heap.size w w9 := HBX.out.trans (hk9.below HBX.out.size (fun i e => by obtain ⟨ad, e1, e2⟩ := e; have := (HVX.out.own.lt ad e1).1; have := HWB.out; omega))
         have hks : Kept (fun i => i = v) w9 (w9.setCell ⟨v, 1, none⟩ (.slice a3 (j + 1) cap3)) := Kept.setCell w9 ⟨v, 1, none⟩ _
         have HVN := Lib.hid (HVX.out.more (i := it) HIT.out hk9 (by have e : clineCs c s.es it = [.int .u16 (it : Int), .int .u32 (am.qty : Int)] := (by unfold clineCs; rw [HQ.out]); rw [e]; exact ho9))
         have HBN : Hid (Below w.heap.size w (w9.setCell ⟨v, 1, none⟩ (.slice a3 (j + 1) cap3))) := Lib.hid (hb9.trans (hks.below hb9.size (fun i e => by rw [e]; exact HGV.out)))
         have HBN2 : Hid (B ≤ (w9.setCell ⟨v, 1, none⟩ (.slice a3 (j + 1) cap3)).heap.size) := Lib.hid (Nat.le_trans HBS.out (Nat.le_trans hk9.size hks.size))
         have hm10 : MpF (w9.setCell ⟨v, 1, none⟩ (.slice a3 (j + 1) cap3)) 31 m cnt f := HVN.out.mp
         refine ⟨hm9, ?_⟩
         simp only [Act.put, ap1, ap2, ap3]
         refine held_exec 10 80 (.pointer (some ⟨v, 1, none⟩)) rfl rfl (by kernel_rfl) (by kernel_rfl) (by kernel_rfl) hm9 ?_
         simp only [Act.put, ap1, ap2, ap3]
         refine held_void 11 rfl rfl (by kernel_rfl) (by kernel_rfl) (exec_stSl rfl rfl rfl hv9 (by show 1 < 4; omega)) hm10 ?_
         clear hno hlt3 hm9 hv9 hb9 hks hm10 ho9 hk9 hl9
         refine wpAnyH_done (by kernel_rfl) ?_ _
         go_wp2_with fail
         go_roundw
         case rel => exact ⟨j + 1, cap3, a3, by go_num, hlt, HVN, HBN, HBN2⟩
         case measure => simp [numI]; omega
        ·simp only [Act.put, ap1, ap2, ap3]
         refine held_exec 1 71 (.slice a2 j cap2) rfl rfl (by kernel_rfl) (by kernel_rfl) (exec_cell rfl rfl (load_cell (by kernel_rfl) HL7.out)) (hS.below (below_one w6 _)) ?_
         simp only [Act.put, ap1, ap2, ap3]
         clear HL7
         have HVX := Lib.hid (HVQ.out.below (below_one w6 (.cells #[.int .u16 (it : Int), .int .u32 (am.qty : Int)] 86)))
         have HBX : Hid (Below w.heap.size w (w6.alloc (.cells #[.int .u16 (it : Int), .int .u32 (am.qty : Int)] 86))) := Lib.hid (HBQ.out.trans ((below_one w6 _).mono HBQ.out.size))
         have HBS : Hid (B ≤ (w6.alloc (.cells #[.int .u16 (it : Int), .int .u32 (am.qty : Int)] 86)).heap.size) := Lib.hid (by have := HBZ.out; simp; omega)
         have HGB : Hid (Blk (w6.alloc (.cells #[.int .u16 (it : Int), .int .u32 (am.qty : Int)] 86)) w6.heap.size 86 #[.int .u16 (it : Int), .int .u32 (am.qty : Int)]) := Lib.hid (Blk.new w6 86 _)
         generalize w6.alloc (.cells #[.int .u16 (it : Int), .int .u32 (am.qty : Int)] 86) = wx at HVX HBX HBS HGB
         generalize w6.heap.size = g8 at HGB
         refine held_appendG 9 79 53 86 2 8 info86 und53 rfl (by decide) (by decide) rfl rfl (by kernel_rfl) (by kernel_rfl) rfl rfl rfl HVX.out.own HGB.out rfl (by intro u hu; simp only [List.mem_cons, List.not_mem_nil, or_false] at hu; rcases hu with rfl | rfl <;> rfl) (by omega) HBS.out (fun a3 cap3 w9 ho9 hk9 hl9 => ?_)
         have hno : ∀ g, g < B → ¬ At a2 g := fun g hg ⟨ad, e, e2⟩ => by have := (HVX.out.own.lt ad e).1; omega
         have hlt3 := HVX.out.lt
         have hm9 : MpF w9 31 m cnt f := HVX.out.mp.kept hk9 (hno _ (by omega))
         have hv9 := HVX.out.view.kept hk9 (hno _ (by omega))
         have hb9 : Below w.heap.size w w9 := HBX.out.trans (hk9.below HBX.out.size (fun i e => by obtain ⟨ad, e1, e2⟩ := e; have := (HVX.out.own.lt ad e1).1; have := HWB.out; omega))
         have hks : Kept (fun i => i = v) w9 (w9.setCell ⟨v, 1, none⟩ (.slice a3 (j + 1) cap3)) := Kept.setCell w9 ⟨v, 1, none⟩ _
         have HVN := Lib.hid (HVX.out.more (i := it) HIT.out hk9 (by have e : clineCs c s.es it = [.int .u16 (it : Int), .int .u32 (am.qty : Int)] := (by unfold clineCs; rw [HQ.out]); rw [e]; exact ho9))
         have HBN : Hid (Below w.heap.size w (w9.setCell ⟨v, 1, none⟩ (.slice a3 (j + 1) cap3))) := Lib.hid (hb9.trans (hks.below hb9.size (fun i e => by rw [e]; exact HGV.out)))
         have HBN2 : Hid (B ≤ (w9.setCell ⟨v, 1, none⟩ (.slice a3 (j + 1) cap3)).heap.size) := Lib.hid (Nat.le_trans HBS.out (Nat.le_trans hk9.size hks.size))
         have hm10 : MpF (w9.setCell ⟨v, 1, none⟩ (.slice a3 (j + 1) cap3)) 31 m cnt f := HVN.out.mp
         refine ⟨hm9, ?_⟩
         simp only [Act.put, ap1, ap2, ap3]
         refine held_exec 10 80 (.pointer (some ⟨v, 1, none⟩)) rfl rfl (by kernel_rfl) (by kernel_rfl) (by kernel_rfl) hm9 ?_
         simp only [Act.put, ap1, ap2, ap3]
         refine held_void 11 rfl rfl (by kernel_rfl) (by kernel_rfl) (exec_stSl rfl rfl rfl hv9 (by show 1 < 4; omega)) hm10 ?_
         clear hno hlt3 hm9 hv9 hb9 hks hm10 ho9 hk9 hl9
         refine wpAnyH_done (by kernel_rfl) ?_ _
         go_wp2_with fail
         go_roundw
         case rel => exact ⟨j + 1, cap3, a3, by go_num, hlt, HVN, HBN, HBN2⟩
         case measure => simp [numI]; omega
      ·obtain rfl : j = nk := by omega
       go_wp2_with (refine wpList_stop55 rfl ?_)
       refine ⟨?_⟩
       refine wpList_run rfl (exec_load55 rfl rfl HV.out.view) ?_
       refine wpList_void rfl rfl (exec_store55 rfl rfl rfl HV.out.res) ?_
       have hkr := Kept.setRow wr r (viewV c (.slice a2 j cap2) (coutTo c s.es s.es.length) T)
       have HRB : Hid (Blk (wr.setRow r (viewV c (.slice a2 j cap2) (coutTo c s.es s.es.length) T)) r 55 (viewV c (.slice a2 j cap2) (coutTo c s.es s.es.length) T)) := Lib.hid (HV.out.res.row)
       have HE : Hid (CViewP s c w (.returned (.agg (viewV c (.slice a2 j cap2) (coutTo c s.es s.es.length) T))) (wr.setRow r (viewV c (.slice a2 j cap2) (coutTo c s.es s.es.length) T))) := Lib.hid (.inl ⟨HRT.out, ss, a2, cap2, HI.out, by rw [HNK.out, HTT.out], by
        have h := (HV.out.own.keep hkr (fun ad e => by have := (HV.out.own.lt ad e).1; have := HV.out.lt; omega)).mono HWB.out
        rw [List.take_of_length_le (by rw [HNK.out]; exact Nat.le_refl _)] at h
        rw [HNK.out]
        exact h, HB.out.trans (hkr.below HB.out.size (fun i e => by have := HRR.out; omega))⟩)
       generalize wr.setRow r (viewV c (.slice a2 j cap2) (coutTo c s.es s.es.length) T) = wz at HRB HE
       clear hkr
       go_wp2_with fail
       exact bodyPost_ret (ret55 rfl rfl HRB.out) rfl HE.out
end Go.Proofs.YtnekpgmgnepdoaaGreat
end
section
namespace Go.Proofs.YtnekpgmgnepdoaaGreat
open Go.RowKit
theorem info31u : (Tryz.prog.info? 31).map (fun i => (i.zero, i.size, i.bytes)) = some (some (.int .u16 0), 1, 2) := by kernel_rfl
theorem und59u : Tryz.prog.underlying 59 = some (.slice 31) := Tryz.underlying59
def CCartsP (s : Sta) (w : World) (e : Ending) (w' : World) : Prop :=
 ∃ (l : List Nat) (a : Option Addr) (cap : Nat), e = .returned (.slice a l.length cap) ∧ GL w' 1 a l.length (ones l) ∧ ((s.Right ∧ l = s.ts.map (·.c)) ∨ (¬ s.Right ∧ l = [])) ∧ Below w.heap.size w w'
theorem ones_app (l m : List Nat) : ones (l ++ m) = ones l ++ ones m := by unfold ones; exact List.map_append
theorem run_mkC (w : World) (n : Nat) (hn : n ≤ 1000000) : (Instr.makeSlice 59 (.int .i64 0) (.int .i64 (n : Int))).run Tryz.prog w = .ok (.slice (some ⟨w.heap.size, 0, none⟩) 0 n) (w.alloc (.cells (madeCells #[.int .u16 0] n) 31)) := by
 obtain ⟨i0, hii, hz0, hz1, hz2⟩ := info_parts info31u
 have := run_make (P := Tryz.prog) w 59 31 i0 (.int .u16 0) und59u hii hz0 .i64 .i64 0 (n : Int) (by omega) (by omega) (by rw [hz2]; omega) (by omega)
 rw [hz1] at this
 simpa [Value.cells] using this
theorem ownG_mk (w : World) (n : Nat) (hn : n ≤ 1000000) : OwnG (w.alloc (.cells (madeCells #[.int .u16 0] n) 31)) 31 1 w.heap.size (some ⟨w.heap.size, 0, none⟩) 0 n [] :=
 ⟨World.ownsRow_made w _ n (Nat.le_refl _) (by unfold maxLen; omega) (by rw [size_madeCells]; omega), by simp, rfl⟩
theorem exec_bsU {ev : Operand → Value} {q : Oper} {w : World} {x : Operand} {k : Nat} (ho : q.op = .buildSlice 59 1 #[(0, x)]) (hx : ev x = .int .u16 (k : Int)) : (execOp ev q).run Tryz.prog w = .ok (.value (.slice (some ⟨w.heap.size, 0, none⟩) 1 1)) (w.alloc (.cells #[.int .u16 (k : Int)] 31)) := by
 have hm : (#[((0 : Nat), x)]).map (fun (i, x) => (i, ev x)) = #[(0, Value.int .u16 (k : Int))] := by simp [hx]
 have hb : (Instr.buildSlice 59 1 #[(0, .int .u16 (k : Int))]).run Tryz.prog w = .ok (.slice (some ⟨w.heap.size, 0, none⟩) 1 1) (w.alloc (.cells #[.int .u16 (k : Int)] 31)) := by
  obtain ⟨i0, hi, hz0, hz1, hz2⟩ := info_parts info31u
  refine run_buildSlice w 59 31 1 _ _ i0 _ und59u hi hz0 (by rw [hz1]; omega) (by rw [hz1]; omega) ?_
  rw [hz1]
  kernel_rfl
 unfold execOp
 simp only [ho, hm, Sem.run_bind, hb, Result.andThen_ok]
 rfl
set_option maxRecDepth 100000 in
set_option maxHeartbeats 8000000 in
theorem carts_any {s : Sta} {a b : Option Addr} {n c m d : Nat} {w : World} (hl : SL w s a n b m) (hn : n < 100) (hm : m < 200000) : Calls Tryz.prog 27 #[.agg (sv s.v a n c b m d)] w (CCartsP s w) := by
 have HL := Lib.hid hl
 have HTN := Lib.hid hl.ts.len'
 obtain ⟨zo, hz⟩ : ∃ z, La.zero = z := ⟨_, rfl⟩
 have HZO := Lib.hid hz
 have hb1 := fun (v : V) x y w => box39 v x y w
 have HP0 := Lib.hid (bo_new w 39 (sv s.v a n c b m d))
 clear hl hz
 go_enter Tryz.func27, Tryz.ntmps27
 go_upto_region 1 with fail
 clear hb1
 generalize w.alloc (.cells (sv s.v a n c b m d) 39) = w0 at HP0
 obtain ⟨p, hp⟩ : ∃ p, w.heap.size = p := ⟨_, rfl⟩
 have HPP := Lib.hid hp
 have HST := Lib.hid HP0.out.one
 rw [hp] at HST
 rw [hp]
 clear hp
 go_wp2_with (refine wpList_run rfl (exec_load39 rfl rfl HST.out) ?_)
 refine (right_any' (HL.out.below HP0.out.old) hn (by omega)).mono ?_
 rintro e w1 ⟨q, rfl, hq, hb⟩
 have HS1 := Lib.hid (HST.out.below hb)
 have HB1 := Lib.hid (HP0.out.old.trans (hb.mono HP0.out.old.size))
 clear hb HST HP0
 cases q
 ·have HNR : Hid (¬ s.Right) := Lib.hid (fun h => by have := hq.2 h; cases this)
  clear hq
  go_wp2_with fail
  go_ret
  exact ⟨[], none, 0, rfl, GL.nil _ _ _, .inr ⟨HNR.out, rfl⟩, HB1.out⟩
 ·have HRT := Lib.hid (hq.1 rfl)
  clear hq
  have c17 := stc17 HS1.out
  have hmk := run_mkC w1 m (by omega)
  have HO0 := Lib.hid (ownG_mk w1 m (by omega))
  have HB0 : Hid (Below w.heap.size w (w1.alloc (.cells (madeCells #[.int .u16 0] m) 31))) := Lib.hid (HB1.out.trans ((below_one w1 _).mono HB1.out.size))
  have c17b : (w1.alloc (.cells (madeCells #[.int .u16 0] m) 31)).cell? ⟨p, 17, none⟩ = some (.slice b m d) := stc17 (HS1.out.below (below_one w1 _))
  have HWB : Hid (w.heap.size ≤ w1.heap.size) := Lib.hid HB1.out.size
  go_upto_region 5 with fail
  clear hmk c17 c17b HS1 HB1
  obtain ⟨B, hB⟩ : ∃ B, w1.heap.size = B := ⟨_, rfl⟩
  rw [hB] at HO0 HWB
  rw [hB]
  have HZ0 : Hid (B ≤ (w1.alloc (.cells (madeCells #[.int .u16 0] m) 31)).heap.size) := Lib.hid (by simp; omega)
  clear hB
  generalize w1.alloc (.cells (madeCells #[.int .u16 0] m) 31) = w2 at HO0 HB0 HZ0
  go_loopw [3, 16] (fun l i wr => ∃ (k c1 : Nat) (a1 : Option Addr), k ≤ m ∧ l = .slice a1 k c1 ∧ i = .int .i64 (k : Int) ∧ Hid (OwnG wr 31 1 B a1 k c1 (ones ((s.ts.take k).map (·.c)))) ∧ Hid (Below w.heap.size w wr) ∧ Hid (B ≤ wr.heap.size)) (fun _ i _ => m - (intOf i).toNat)
  case atStart => exact ⟨0, m, _, Nat.zero_le _, rfl, rfl, Lib.hid (by simpa [ones] using HO0.out), HB0, HZ0⟩
  case round =>
   obtain ⟨k, c1, a1, hk, rfl, rfl, HO, HB, HZ⟩ := hrel
   clear HO0 HB0 HZ0
   by_cases hlt : k < m
   ·obtain ⟨g, off, x, rfl, hx, hrw⟩ := LL.at (HL.out.ts.below HB.out) hlt
    have HX : Hid (ones ((s.ts.take (k + 1)).map (·.c)) = ones ((s.ts.take k).map (·.c)) ++ [[.int .u16 (x.c : Int)]]) := Lib.hid (by
     rw [List.take_add_one, hx, List.map_append, ones_app]; rfl)
    have HR := Lib.hid hrw
    clear hx hrw
    go_wp2_with (first | (refine wpList_run rfl (exec_idx96 (i := k) rfl rfl rfl rfl hlt) ?_) | (refine wpList_run rfl (exec_ld96 (p := x) rfl rfl HR.out) ?_) | (refine wpList_run rfl (exec_alloc96z HZO.out rfl) ?_) | (refine wpList_stop96 rfl ?_))
    refine ⟨?_⟩
    refine wpList_void rfl rfl (exec_store96 (p := zo) (u := x) rfl rfl rfl (Blk.new wr 96 zo.arr)) ?_
    have hbo := bo_laid wr 96 zo.arr x.arr
    have HO1 := Lib.hid (HO.out.below hbo.old)
    have HB1 := Lib.hid (HB.out.trans (hbo.old.mono HB.out.size))
    have HZ1 := Lib.hid (Nat.le_trans HZ.out hbo.old.size)
    have c0 := lat0 hbo.one
    clear hbo HO HB HZ HR
    generalize (wr.alloc (.cells zo.arr 96)).setRow wr.heap.size x.arr = w1 at HO1 HB1 HZ1 c0
    go_wp2_with (first | (refine wpList_run rfl (exec_bsU (k := x.c) rfl rfl) ?_) | (at_builtin; refine wpList_appendG 59 31 1 2 info31u und59u rfl (by decide) (by decide) rfl rfl rfl rfl (HO1.out.below (below_one w1 _)) (Blk.new w1 31 #[.int .u16 (x.c : Int)]) rfl (by simp [Value.oneCell']) (by omega) (by have := HZ1.out; simp; omega) ?_; intro a3 c3 w3 ho hk3 hl3; have HO3 := Lib.hid ho; have HK3 := Lib.hid hk3; clear ho hk3 hl3))
    clear c0
    go_roundw
    case rel =>
     have hat : ∀ k, At a1 k → B ≤ k := fun k ⟨ad0, had, e⟩ => by rw [e]; exact (HO1.out.lt ad0 had).1
     have h1 := HB1.out.trans ((below_one w1 (.cells #[.int .u16 (x.c : Int)] 31)).mono HB1.out.size)
     refine ⟨k + 1, c3, a3, hlt, rfl, by go_num, Lib.hid (by rw [HX.out]; exact HO3.out), Lib.hid (h1.trans (HK3.out.below h1.size (fun j e => Nat.le_trans HWB.out (hat j e)))), Lib.hid (by have h5 := HK3.out.size; rw [World.size_alloc] at h5; have := HZ1.out; omega)⟩
    case measure => simp [intOf]; omega
   ·have hkm : m = k := by omega
    subst hkm
    have hall : s.ts.take m = s.ts := List.take_of_length_le (by rw [HTN.out]; exact Nat.le_refl _)
    rw [hall] at HO
    have hlen : (s.ts.map (·.c)).length = m := by rw [List.length_map]; exact HTN.out
    have HLEN := Lib.hid hlen
    clear hall hlen
    go_wp2_with fail
    go_ret
    exact ⟨s.ts.map (·.c), a1, c1, (by rw [HLEN.out]; first | done | rfl), by rw [HLEN.out]; exact HO.out.gl, .inl ⟨HRT.out, rfl⟩, HB.out⟩
end Go.Proofs.YtnekpgmgnepdoaaGreat
end
section
namespace Go.Proofs.YtnekpgmgnepdoaaGreat
open Go.RowKit
def CopyP (s : Sta) (n m : Nat) (w : World) (e : Ending) (w' : World) : Prop := ∃ a c b d, e = .returned (.agg (sv s.v a n c b m d)) ∧ SL w' s a n b m ∧ Below w.heap.size w w'
structure Cp (w W : World) (s : Sta) (F T p pr : Nat) (a : Option Addr) (n c : Nat) (b : Option Addr) (m d : Nat) (z : V) : Prop where
 st : Blk W p F (sv s.v a n c b m d)
 res : Blk W pr T (sv z none 0 0 none 0 0)
 old : Below w.heap.size w W
theorem Cp.below {w W W' : World} {s : Sta} {F T p pr n c m d : Nat} {a b : Option Addr} {z : V} (h : Cp w W s F T p pr a n c b m d z) (hb : Below W.heap.size W W') : Cp w W' s F T p pr a n c b m d z := ⟨h.st.below hb, h.res.below hb, h.old.trans (hb.mono h.old.size)⟩
theorem Cp.kept {w W W' : World} {s : Sta} {F T p pr n c m d po : Nat} {a b : Option Addr} {z : V} (h : Cp w W s F T p pr a n c b m d z) (hk : Kept (fun k => k = po) W W') (hp : w.heap.size = p ∧ p + 1 = pr) (h0 : pr < po) : Cp w W' s F T p pr a n c b m d z :=
 ⟨h.st.kept hk (by omega), h.res.kept hk (by omega), h.old.trans (hk.below h.old.size (fun k e => by omega))⟩
theorem cp_app {w W W' : World} {s : Sta} {F T p pr n c m d po B e size n1 c1 : Nat} {a b a1 : Option Addr} {z : V} {vs : List (List Value)} {ob : Obj} {cs : Array Value} (ho : OwnG W e size B a1 n1 c1 vs) (hk : Kept (At a1) (W.alloc ob) W') (h : Cp w W s F T p pr a n c b m d z) (hn : Blk W po T cs) (hs : B ≤ W.heap.size) (hp : w.heap.size = p ∧ p + 1 = pr) (h0 : pr < po) (hB : po < B) :
  Cp w W' s F T p pr a n c b m d z ∧ Blk W' po T cs ∧ B ≤ W'.heap.size := by
 have hat : ∀ k, At a1 k → B ≤ k := fun k ⟨ad0, had, e⟩ => by rw [e]; exact (ho.lt ad0 had).1
 have h1 := h.below (below_one W ob)
 have h5 := hk.size
 rw [World.size_alloc] at h5
 exact ⟨⟨h1.st.kept hk (fun e => by have := hat _ e; omega), h1.res.kept hk (fun e => by have := hat _ e; omega), h1.old.trans (hk.below h1.old.size (fun j e => by have := hat j e; omega))⟩, (hn.below (below_one W ob)).kept hk (fun e => by have := hat _ e; omega), by omega⟩
theorem gk_apart {w : World} {e e' size size' B B' n n' c c' : Nat} {a a' : Option Addr} {vs vs' : List (List Value)} (h : OwnG w e size B a n c vs) (h' : OwnG w e' size' B' a' n' c' vs') (hne : e ≠ e') : ∀ ad, a = some ad → ¬ At a' ad.block := by
 rintro ad rfl ⟨ad', rfl, ee⟩
 rcases h.row.2 with ⟨h0, _⟩ | ⟨g, cap', cur, hv, _, hg, _⟩
 ·simp at h0
 ·rcases h'.row.2 with ⟨h0, _⟩ | ⟨g', cap'', cur', hv', _, hg', _⟩
  ·simp at h0
  ·simp only [Value.slice.injEq, Option.some.injEq] at hv hv'
   obtain ⟨rfl, _⟩ := hv
   obtain ⟨rfl, _⟩ := hv'
   simp only at ee
   subst ee
   rw [hg] at hg'
   simp only [Option.some.injEq, Obj.cells.injEq] at hg'
   exact hne hg'.2.1
theorem exec_stS4 {ev : Operand → Value} {q : Oper} {w : World} {x y : Operand} {ty g o t n c : Nat} {a : Option Addr} {cs : Array Value} (hu : ty ∈ [25, 26, 36, 37]) (ho : q.op = .store ty x y) (hx : ev x = .pointer (some ⟨g, o, none⟩)) (hy : ev y = .slice a n c) (h : Blk w g t cs) (hlt : o < cs.size) : (execOp ev q).run Tryz.prog w = .ok .skip (w.setCell ⟨g, o, none⟩ (.slice a n c)) := by
 have hc : w.cell? ⟨g, o, none⟩ = some cs[o] := by rw [h.cell]; exact Array.getElem?_eq_getElem hlt
 have hf : w.frozen? ⟨g, o, none⟩ = false := h.frozen o
 have hu25 := Tryz.underlying25
 have hu26 := Tryz.underlying26
 have hu36 := Tryz.underlying36
 have hu37 := Tryz.underlying37
 generalize cs[o] = old at hc
 unfold execOp
 simp only [List.mem_cons, List.not_mem_nil, or_false] at hu
 rcases hu with rfl | rfl | rfl | rfl
 all_goals
  simp only [ho, hx, hy]
  go_simp
theorem wpList_stopS4 {ops : Array Oper} {rest : List Oper} {o : Oper} {act : Act} {Q : Exit → Act → World → Prop} {W : World} {x y : Operand} {ty : TypeId} (_hu : ty ∈ [25, 26, 36, 37]) (_ho : o.op = .store ty x y) (k : Halt_ (wpList Tryz.prog ops Q (o :: rest) act W)) : wpList Tryz.prog ops Q (o :: rest) act W := k.out
theorem exec_bldV39 {ev : Operand → Value} {q : Oper} {w : World} {x : Operand} {v : V} (ho : q.op = .build 39 #[(0, x)]) (hx : ev x = .agg v.arr) : (execOp ev q).run Tryz.prog w = .ok (.value (.agg (sv v none 0 0 none 0 0))) w := by
 have hm : (#[((0 : Nat), x)]).map (fun (i, x) => (i, ev x)) = #[(0, Value.agg v.arr)] := by simp [hx]
 have hb : (Instr.build 39 #[(0, .agg v.arr)]).run Tryz.prog w = .ok (.agg (sv v none 0 0 none 0 0)) w := by
  refine run_build w 39 _ _ ?_
  obtain ⟨x0, x1, x2, x3, x4, x5, x6, x7, x8, x9, y0, y1, y2, y3, y4, y5, hv⟩ := sixteen v
  unfold sv stA stC V.arr V.cs
  rw [hv]
  kernel_rfl
 unfold execOp
 simp only [ho, hm, Sem.run_bind, hb, Result.andThen_ok]
 rfl
set_option maxRecDepth 100000 in
set_option maxHeartbeats 8000000 in
theorem theirs_any {s : Sta} {a b : Option Addr} {n c m d : Nat} {w : World} (hl : SL w s a n b m) (hn : n < 200000) (hm : m < 200000) : Calls Tryz.prog 15 #[.agg (sv s.v a n c b m d)] w (CopyP s n m w) := by
 have HL := Lib.hid hl
 have HSN := Lib.hid hl.es.len'
 have HSM := Lib.hid hl.ts.len'
 obtain ⟨z, hz⟩ : ∃ z, V.zero = z := ⟨_, rfl⟩
 have HZ := Lib.hid hz
 obtain ⟨ze, hze⟩ : ∃ z, En.zero = z := ⟨_, rfl⟩
 have HZN := Lib.hid hze
 obtain ⟨zl, hzl⟩ : ∃ z, La.zero = z := ⟨_, rfl⟩
 have HZL := Lib.hid hzl
 have hb1 := fun (v : V) x y w => box28 v x y w
 have H0 : Hid (Cp w ((w.alloc (.cells (sv s.v a n c b m d) 28)).alloc (.cells (sv z none 0 0 none 0 0) 39)) s 28 39 w.heap.size (w.heap.size + 1) a n c b m d z) := Lib.hid ⟨(Blk.new w 28 _).below (below_one _ _), by have := Blk.new (w.alloc (.cells (sv s.v a n c b m d) 28)) 39 (sv z none 0 0 none 0 0); simpa using this, below_2 _ _ _⟩
 clear hl hz hze hzl
 go_enter Tryz.func15, Tryz.ntmps15
 go_upto_region 1 with (refine wpList_run rfl (exec_alloc39z HZ.out rfl) ?_)
 clear hb1
 simp only [World.size_alloc, Act.put, List.setIfInBounds_toArray, List.set_cons_zero, List.set_cons_succ]
 generalize (w.alloc (.cells (sv s.v a n c b m d) 28)).alloc (.cells (sv z none 0 0 none 0 0) 39) = w0 at H0
 obtain ⟨p, hp⟩ : ∃ p, w.heap.size = p := ⟨_, rfl⟩
 obtain ⟨pr, hpr⟩ : ∃ q, p + 1 = q := ⟨_, rfl⟩
 have HPS : Hid (w.heap.size = p ∧ p + 1 = pr) := Lib.hid ⟨hp, hpr⟩
 rw [hp, hpr] at H0
 rw [hp, hpr]
 clear hp hpr
 go_wp2_with (first | (refine wpList_run rfl (exec_stV (v := s.v) rfl rfl H0.out.st) ?_) | (refine wpList_run rfl (exec_bldV39 (v := s.v) rfl rfl) ?_) | (refine wpList_run rfl (exec_alloc39z HZ.out rfl) ?_) | (refine wpList_stop39 rfl ?_))
 refine ⟨?_⟩
 refine wpList_void rfl rfl (exec_store39 rfl rfl rfl (Blk.new w0 39 _)) ?_
 have hbo := bo_laid w0 39 (sv z none 0 0 none 0 0) (sv s.v none 0 0 none 0 0)
 have HC0 := Lib.hid (H0.out.below hbo.old)
 have HN0 := Lib.hid hbo.one
 have HP0 : Hid (pr < w0.heap.size) := Lib.hid H0.out.res.lt
 have HZ0 : Hid (w0.heap.size + 1 ≤ ((w0.alloc (.cells (sv z none 0 0 none 0 0) 39)).setRow w0.heap.size (sv s.v none 0 0 none 0 0)).heap.size) := Lib.hid (by simp [World.setRow])
 clear hbo H0
 generalize (w0.alloc (.cells (sv z none 0 0 none 0 0) 39)).setRow w0.heap.size (sv s.v none 0 0 none 0 0) = w1 at HC0 HN0 HZ0
 generalize w0.heap.size = po at HN0 HP0 HZ0
 obtain ⟨B, hB⟩ : ∃ B, po + 1 = B := ⟨_, rfl⟩
 rw [hB] at HZ0
 have HPB : Hid (po < B) := Lib.hid (by omega)
 clear hB
 have c16 := stc16 HC0.out.st
 go_wp2_with fail
 clear c16
 go_loopw [14] (fun i wr => ∃ (k c1 : Nat) (a1 : Option Addr), k ≤ n ∧ i = .int .i64 (k : Int) ∧ Hid (Cp w wr s 28 39 p pr a n c b m d z) ∧ Hid (Blk wr po 39 (sv s.v a1 k c1 none 0 0)) ∧ Hid (OwnG wr 72 7 B a1 k c1 (cellsE (s.es.take k))) ∧ Hid (B ≤ wr.heap.size)) (fun i _ => n - (intOf i).toNat)
 case atStart => exact ⟨0, 0, none, Nat.zero_le _, rfl, HC0, HN0, Lib.hid (ownG_nil _ _ _ _), HZ0⟩
 case round =>
  obtain ⟨k, c1, a1, hk, rfl, HC, HN, HO, HS⟩ := hrel
  clear HC0 HN0 HZ0
  by_cases hlt : k < n
  ·obtain ⟨g, off, x, rfl, hx, hrw⟩ := EL.at (HL.out.es.below HC.out.old) hlt
   have HX : Hid (cellsE (s.es.take (k + 1)) = cellsE (s.es.take k) ++ [x.cs]) := Lib.hid (by rw [List.take_add_one, hx, cellsE_app]; rfl)
   have HR := Lib.hid hrw
   clear hx hrw
   go_wp2_with (first | (refine wpList_run rfl (exec_idx93 (i := k) rfl rfl rfl rfl hlt) ?_) | (refine wpList_run rfl (exec_ld93 (p := x) rfl rfl HR.out) ?_) | (refine wpList_run rfl (exec_alloc93z HZN.out rfl) ?_) | (refine wpList_stop93 rfl ?_))
   refine ⟨?_⟩
   refine wpList_void rfl rfl (exec_store93 (p := ze) (u := x) rfl rfl rfl (Blk.new wr 93 ze.arr)) ?_
   have hbo := bo_laid wr 93 ze.arr x.arr
   have HC1 := Lib.hid (HC.out.below hbo.old)
   have HN1 := Lib.hid (HN.out.below hbo.old)
   have HO1 := Lib.hid (HO.out.below hbo.old)
   have HS1 := Lib.hid (Nat.le_trans HS.out hbo.old.size)
   have HBX := Lib.hid hbo.one
   clear hbo HC HN HO HS HR
   generalize (wr.alloc (.cells ze.arr 93)).setRow wr.heap.size x.arr = w1 at HC1 HN1 HO1 HS1 HBX
   generalize wr.heap.size = qx at HBX
   have c16 := stc16 HN1.out
   go_wp2_with (first | (refine wpList_run rfl (exec_load93 (p := x) rfl rfl HBX.out) ?_) | (refine wpList_run rfl (exec_bs72 (p := x) rfl rfl) ?_) | (at_builtin; refine wpList_appendG 36 72 7 24 info72 und36 rfl (by decide) (by decide) rfl rfl rfl rfl (HO1.out.below (below_one w1 _)) (Blk.new w1 72 x.arr) x.arr_size (by simpa using x.one_cs) (by omega) (by have := HS1.out; simp; omega) ?_; intro a3 c3 w3 ho hk3 hl3; have HO3 := Lib.hid ho; have HK3 := Lib.hid hk3; clear ho hk3 hl3) | (refine wpList_stopS4 (by decide) rfl ?_))
   clear c16
   obtain ⟨hC3, hN3, hS3⟩ := cp_app HO1.out HK3.out HC1.out HN1.out HS1.out HPS.out HP0.out HPB.out
   have HC3 := Lib.hid hC3
   have HN3 := Lib.hid hN3
   have HS3 := Lib.hid hS3
   clear hC3 hN3 hS3
   refine ⟨?_⟩
   refine wpList_void rfl rfl (exec_stS4 (by decide) rfl rfl rfl HN3.out (by rw [stA_size]; decide)) ?_
   have hks := Kept.setCell w3 ⟨po, 16, none⟩ (.slice a3 (k + 1) c3)
   have hbl := HN3.out.set 16 (.slice a3 (k + 1) c3)
   rw [sv_es] at hbl
   have HC4 : Hid (Cp w (w3.setCell ⟨po, 16, none⟩ (.slice a3 (k + 1) c3)) s 28 39 p pr _ n c b m d z) := Lib.hid (HC3.out.kept hks HPS.out HP0.out)
   have HN4 := Lib.hid hbl
   have HO4 : Hid (OwnG (w3.setCell ⟨po, 16, none⟩ (.slice a3 (k + 1) c3)) 72 7 B a3 (k + 1) c3 (cellsE (s.es.take (k + 1)))) := Lib.hid (by rw [HX.out]; exact HO3.out.keep hks (fun ad e h => by have := (HO3.out.lt ad e).1; have := HPB.out; simp only at h; omega))
   have HS4 : Hid (B ≤ (w3.setCell ⟨po, 16, none⟩ (.slice a3 (k + 1) c3)).heap.size) := Lib.hid (Nat.le_trans HS3.out hks.size)
   clear hks hbl
   generalize w3.setCell ⟨po, 16, none⟩ (.slice a3 (k + 1) c3) = w4 at HC4 HN4 HO4 HS4
   go_wp2_with fail
   go_roundw
   case rel => exact ⟨k + 1, c3, a3, hlt, by go_num, HC4, HN4, HO4, HS4⟩
   case measure => simp [intOf]; omega
  ·have hkn : n = k := by omega
   subst hkn
   have hall : s.es.take n = s.es := List.take_of_length_le (by rw [HSN.out]; exact Nat.le_refl _)
   rw [hall] at HO
   clear hall
   have c17 := stc17 HC.out.st
   go_wp2_with fail
   clear c17
   obtain ⟨wE, hwE⟩ : ∃ W : World, W = wr := ⟨_, rfl⟩
   have HOE : Hid (OwnG wr 72 7 B a1 n c1 (cellsE s.es)) := HO
   clear hwE
   go_loopw [28] (fun i wr => ∃ (k c2 : Nat) (a2 : Option Addr), k ≤ m ∧ i = .int .i64 (k : Int) ∧ Hid (Cp w wr s 28 39 p pr a n c b m d z) ∧ Hid (Blk wr po 39 (sv s.v a1 n c1 a2 k c2)) ∧ Hid (OwnG wr 72 7 B a1 n c1 (cellsE s.es)) ∧ Hid (OwnG wr 96 2 B a2 k c2 (cellsL (s.ts.take k))) ∧ Hid (B ≤ wr.heap.size)) (fun i _ => m - (intOf i).toNat)
   case atStart => exact ⟨0, 0, none, Nat.zero_le _, rfl, HC, HN, HOE, Lib.hid (ownG_nil _ _ _ _), HS⟩
   case round =>
    clear HC HN HOE HS HO
    obtain ⟨k, c2, a2, hk, rfl, HC, HN, HO, HT, HS⟩ := hrel
    by_cases hlt : k < m
    ·obtain ⟨g, off, x, rfl, hx, hrw⟩ := LL.at (HL.out.ts.below HC.out.old) hlt
     have HX : Hid (cellsL (s.ts.take (k + 1)) = cellsL (s.ts.take k) ++ [x.cs]) := Lib.hid (by rw [List.take_add_one, hx, cellsL_app]; rfl)
     have HR := Lib.hid hrw
     clear hx hrw
     go_wp2_with (first | (refine wpList_run rfl (exec_idx95 (i := k) rfl rfl rfl rfl hlt) ?_) | (refine wpList_run rfl (exec_ld95 (p := x) rfl rfl HR.out) ?_) | (refine wpList_run rfl (exec_alloc95z HZL.out rfl) ?_) | (refine wpList_stop95 rfl ?_))
     refine ⟨?_⟩
     refine wpList_void rfl rfl (exec_store95 (p := zl) (u := x) rfl rfl rfl (Blk.new wr 95 zl.arr)) ?_
     have hbo := bo_laid wr 95 zl.arr x.arr
     have HC1 := Lib.hid (HC.out.below hbo.old)
     have HN1 := Lib.hid (HN.out.below hbo.old)
     have HO1 := Lib.hid (HO.out.below hbo.old)
     have HT1 := Lib.hid (HT.out.below hbo.old)
     have HS1 := Lib.hid (Nat.le_trans HS.out hbo.old.size)
     have HBX := Lib.hid hbo.one
     clear hbo HC HN HO HT HS HR
     generalize (wr.alloc (.cells zl.arr 95)).setRow wr.heap.size x.arr = w1 at HC1 HN1 HO1 HT1 HS1 HBX
     generalize wr.heap.size = qx at HBX
     have c17 := stc17 HN1.out
     go_wp2_with (first | (refine wpList_run rfl (exec_load95 (p := x) rfl rfl HBX.out) ?_) | (refine wpList_run rfl (exec_bs96 (p := x) rfl rfl) ?_) | (at_builtin; refine wpList_appendG 37 96 2 8 info96 und37 rfl (by decide) (by decide) rfl rfl rfl rfl (HT1.out.below (below_one w1 _)) (Blk.new w1 96 x.arr) x.arr_size (by simpa using x.one_cs) (by omega) (by have := HS1.out; simp; omega) ?_; intro a3 c3 w3 ho hk3 hl3; have HT3 := Lib.hid ho; have HK3 := Lib.hid hk3; clear ho hk3 hl3) | (refine wpList_stopS4 (by decide) rfl ?_))
     clear c17
     obtain ⟨hC3, hN3, hS3⟩ := cp_app HT1.out HK3.out HC1.out HN1.out HS1.out HPS.out HP0.out HPB.out
     have HC3 := Lib.hid hC3
     have HN3 := Lib.hid hN3
     have HS3 := Lib.hid hS3
     have HO3 : Hid (OwnG w3 72 7 B a1 n c1 (cellsE s.es)) := Lib.hid ((HO1.out.below (below_one w1 _)).keep HK3.out (fun ad e h => gk_apart HO1.out HT1.out (by decide) ad e h))
     clear hC3 hN3 hS3
     refine ⟨?_⟩
     refine wpList_void rfl rfl (exec_stS4 (by decide) rfl rfl rfl HN3.out (by rw [stA_size]; decide)) ?_
     have hks := Kept.setCell w3 ⟨po, 17, none⟩ (.slice a3 (k + 1) c3)
     have hbl := HN3.out.set 17 (.slice a3 (k + 1) c3)
     rw [sv_ts] at hbl
     have HC4 : Hid (Cp w (w3.setCell ⟨po, 17, none⟩ (.slice a3 (k + 1) c3)) s 28 39 p pr a n c _ m d z) := Lib.hid (HC3.out.kept hks HPS.out HP0.out)
     have HN4 := Lib.hid hbl
     have HO4 : Hid (OwnG (w3.setCell ⟨po, 17, none⟩ (.slice a3 (k + 1) c3)) 72 7 B a1 n c1 (cellsE s.es)) := Lib.hid (HO3.out.keep hks (fun ad e h => by have := (HO3.out.lt ad e).1; have := HPB.out; simp only at h; omega))
     have HT4 : Hid (OwnG (w3.setCell ⟨po, 17, none⟩ (.slice a3 (k + 1) c3)) 96 2 B a3 (k + 1) c3 (cellsL (s.ts.take (k + 1)))) := Lib.hid (by rw [HX.out]; exact HT3.out.keep hks (fun ad e h => by have := (HT3.out.lt ad e).1; have := HPB.out; simp only at h; omega))
     have HS4 : Hid (B ≤ (w3.setCell ⟨po, 17, none⟩ (.slice a3 (k + 1) c3)).heap.size) := Lib.hid (Nat.le_trans HS3.out hks.size)
     clear hks hbl
     generalize w3.setCell ⟨po, 17, none⟩ (.slice a3 (k + 1) c3) = w4 at HC4 HN4 HO4 HT4 HS4
     go_wp2_with fail
     go_roundw
     case rel => exact ⟨k + 1, c3, a3, hlt, by go_num, HC4, HN4, HO4, HT4, HS4⟩
     case measure => simp [intOf]; omega
    ·have hkm : m = k := by omega
     subst hkm
     have hall : s.ts.take m = s.ts := List.take_of_length_le (by rw [HSM.out]; exact Nat.le_refl _)
     rw [hall] at HT
     clear hall
     go_wp2_with (first | (refine wpList_run rfl (exec_load39 rfl rfl HN.out) ?_) | (refine wpList_stop39 rfl ?_))
     refine ⟨?_⟩
     refine wpList_void rfl rfl (exec_store39 rfl rfl rfl HC.out.res) ?_
     have hks := Kept.setRow wr pr (sv s.v a1 n c1 a2 m c2)
     have HF : Hid (CopyP s n m w (.returned (.agg (sv s.v a1 n c1 a2 m c2))) (wr.setRow pr (sv s.v a1 n c1 a2 m c2))) := Lib.hid ⟨a1, c1, a2, c2, rfl, ⟨(HO.out.keep hks (fun ad e h => by have := (HO.out.lt ad e).1; have := HPB.out; have := HP0.out; omega)).gl, (HT.out.keep hks (fun ad e h => by have := (HT.out.lt ad e).1; have := HPB.out; have := HP0.out; omega)).gl⟩, HC.out.old.trans (hks.below HC.out.old.size (fun k hk => by have := HPS.out; omega))⟩
     have HRB : Hid (Blk (wr.setRow pr (sv s.v a1 n c1 a2 m c2)) pr 39 (sv s.v a1 n c1 a2 m c2)) := Lib.hid HC.out.res.row
     generalize wr.setRow pr (sv s.v a1 n c1 a2 m c2) = w5 at HF HRB
     clear hks
     go_wp2_with fail
     exact bodyPost_ret (v := .agg (sv s.v a1 n c1 a2 m c2)) (ret39 rfl rfl HRB.out) rfl HF.out
end Go.Proofs.YtnekpgmgnepdoaaGreat
end
