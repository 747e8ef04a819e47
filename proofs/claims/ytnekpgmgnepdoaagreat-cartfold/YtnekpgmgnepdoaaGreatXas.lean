import Derived.Test.YtnekpgmgnepdoaaGreatXam
import Derived.Test.YtnekpgmgnepdoaaGreatXao
import Derived.Test.YtnekpgmgnepdoaaGreatXar
section
namespace Go.Proofs.YtnekpgmgnepdoaaGreat
open Go.RowKit
def StP (s : Sta) (er : Nat) (w : World) (e : Ending) (w' : World) : Prop :=
 ∃ a n c b m d, e = .returned (.tuple #[.agg (sv s.v a n c b m d), .int .i64 (er : Int)]) ∧ OwnG w' 72 7 w.heap.size a n c (cellsE s.es) ∧ OwnG w' 96 2 w.heap.size b m d (cellsL s.ts) ∧ Below w.heap.size w w'
open Classical in
noncomputable def appE (s : Sta) (o : O) : Nat := if s.Right then O.readyE s.v o else 2
open Classical in
noncomputable def appS (s : Sta) (o : O) : Sta := if appE s o = 0 then applyS s o else Sta.zero
theorem ready_facts {v : V} {o : O} (h : O.readyE v o = 0) : o.rightB 16 = true ∧ V.hasB v o.r o.s = false ∧ V.belowB o.v v = true := by
 unfold O.readyE at h
 cases h1 : o.rightB 16
 ·rw [h1] at h; simp at h
 ·rw [h1] at h
  cases h2 : V.hasB v o.r o.s
  ·rw [h2] at h
   cases h3 : V.belowB o.v v
   ·rw [h3] at h; simp at h
   ·exact ⟨rfl, rfl, rfl⟩
  ·rw [h2] at h; simp at h
theorem ready_next {v : V} {o : O} (h : O.readyE v o = 0) : V.nextE v o.r o.s = 0 := by
 obtain ⟨h1, h2, h3⟩ := ready_facts h
 rw [O.next_zero]
 obtain ⟨d1, d2, _⟩ := (O.right_iff o 16).1 h1
 have hr : o.r < 16 := by
  have : o.r < 16 ∧ 1 ≤ o.s ∧ o.s ≤ 1048576 := by simpa [V.dotB] using d1
  exact this.1
 have h4 := (V.belowB_iff o.v v).1 h3 o.r hr
 unfold V.hasB at h2
 rw [d1, Bool.true_and, decide_eq_false_iff_not] at h2
 exact ⟨d1, by omega⟩
theorem ready_lays {v : V} {o : O} (h : O.readyE v o = 0) : o.laysB = true ↔ ¬ o.k = 3 ∧ ¬ o.k = 5 := by
 obtain ⟨h1, _, _⟩ := ready_facts h
 have hk := ((O.right_iff o 16).1 h1).2.2.2.2.2
 unfold O.kindB at hk
 rw [decide_eq_true_eq] at hk
 unfold O.laysB
 rw [decide_eq_true_eq]
 omega
theorem ready_new {s : Sta} {o : O} (hr : s.Right) (h : O.readyE s.v o = 0) : ∀ y ∈ s.es, ¬ (y.r = o.r ∧ y.s = o.s) := fun y hy ⟨e1, e2⟩ => by
 have h1 := (hr.has y hy).2.1
 have h2 := (ready_facts h).2.1
 rw [e1, e2, h2] at h1
 cases h1
structure Ax (W : World) (s : Sta) (o : O) (u : V) (ps po pv : Nat) (a : Option Addr) (n c : Nat) (b : Option Addr) (m d : Nat) : Prop where
 st : Blk W ps 39 (sv s.v a n c b m d)
 op : Blk W po 33 o.arr
 vec : Blk W pv 24 u.arr
theorem Ax.below {W W' : World} {s : Sta} {o : O} {u : V} {ps po pv n c m d : Nat} {a b : Option Addr} (h : Ax W s o u ps po pv a n c b m d) (hb : Below W.heap.size W W') : Ax W' s o u ps po pv a n c b m d := ⟨h.st.below hb, h.op.below hb, h.vec.below hb⟩
structure Ax0 (w W : World) (s : Sta) (o : O) (ps po pr : Nat) (a : Option Addr) (n c : Nat) (b : Option Addr) (m d : Nat) (z : V) : Prop where
 st : Blk W ps 39 (sv s.v a n c b m d)
 op : Blk W po 33 o.arr
 res : Blk W pr 39 (sv z none 0 0 none 0 0)
 old : Below w.heap.size w W
theorem Ax0.below {w W W' : World} {s : Sta} {o : O} {ps po pr n c m d : Nat} {a b : Option Addr} {z : V} (h : Ax0 w W s o ps po pr a n c b m d z) (hb : Below W.heap.size W W') : Ax0 w W' s o ps po pr a n c b m d z := ⟨h.st.below hb, h.op.below hb, h.res.below hb, h.old.trans (hb.mono h.old.size)⟩
theorem ax0_new (w : World) (s : Sta) (o : O) (a : Option Addr) (n c : Nat) (b : Option Addr) (m d : Nat) (z : V) : Ax0 w (((w.alloc (.cells (sv s.v a n c b m d) 39)).alloc (.cells o.arr 33)).alloc (.cells (sv z none 0 0 none 0 0) 39)) s o w.heap.size (w.heap.size + 1) (w.heap.size + 1 + 1) a n c b m d z := by
 have h1 := Blk.new w 39 (sv s.v a n c b m d)
 have h2 := Blk.new (w.alloc (.cells (sv s.v a n c b m d) 39)) 33 o.arr
 have h3 := Blk.new ((w.alloc (.cells (sv s.v a n c b m d) 39)).alloc (.cells o.arr 33)) 39 (sv z none 0 0 none 0 0)
 have b2 := below_one (w.alloc (.cells (sv s.v a n c b m d) 39)) (.cells o.arr 33)
 have b3 := below_one ((w.alloc (.cells (sv s.v a n c b m d) 39)).alloc (.cells o.arr 33)) (.cells (sv z none 0 0 none 0 0) 39)
 simp only [World.size_alloc] at h2 h3
 exact ⟨(h1.below b2).below b3, h2.below b3, h3, ((below_one w _).trans (b2.mono (by simp))).trans (b3.mono (by simp; omega))⟩
set_option maxRecDepth 100000 in
set_option maxHeartbeats 8000000 in
theorem apply_any {s : Sta} {a b : Option Addr} {n c m d : Nat} {w : World} (hl : SL w s a n b m) (hn : n < 100) (hm : m < 200000) (o : O) : Calls Tryz.prog 14 #[.agg (sv s.v a n c b m d), .agg o.arr] w (StP (appS s o) (appE s o) w) := by
 have HL := Lib.hid hl
 have HES := Lib.hid hl.es.len'
 have HTS := Lib.hid hl.ts.len'
 obtain ⟨z, hz⟩ : ∃ z, V.zero = z := ⟨_, rfl⟩
 have HZ := Lib.hid hz
 have hb1 := fun (v : V) x y w => box39 v x y w
 have hb2 := fun (o : O) w => box33 o w
 have H0 := Lib.hid (ax0_new w s o a n c b m d z)
 have HZE : Hid (∀ er W, appE s o = er → er ≠ 0 → Below w.heap.size w W → StP (appS s o) (appE s o) w (.returned (.tuple #[.agg (sv z none 0 0 none 0 0), .int .i64 (er : Int)])) W) := Lib.hid (fun er W he h0 hb => by
  have e1 : appS s o = Sta.zero := by unfold appS; rw [if_neg (by rw [he]; exact h0)]
  rw [e1, he]
  exact ⟨none, 0, 0, none, 0, 0, by rw [← hz]; rfl, ownG_nil _ _ _ _, ownG_nil _ _ _ _, hb⟩)
 clear hl hz
 go_enter Tryz.func14, Tryz.ntmps14
 go_upto_region 1 with (refine wpList_run rfl (exec_alloc39z HZ.out rfl) ?_)
 clear hb1 hb2
 generalize ((w.alloc (.cells (sv s.v a n c b m d) 39)).alloc (.cells o.arr 33)).alloc (.cells (sv z none 0 0 none 0 0) 39) = w0 at H0
 obtain ⟨ps, hps⟩ : ∃ p, w.heap.size = p := ⟨_, rfl⟩
 obtain ⟨po, hpo⟩ : ∃ p, ps + 1 = p := ⟨_, rfl⟩
 obtain ⟨pr, hpr⟩ : ∃ p, po + 1 = p := ⟨_, rfl⟩
 have HPS : Hid (w.heap.size = ps ∧ ps + 1 = po ∧ po + 1 = pr) := Lib.hid ⟨hps, hpo, hpr⟩
 have H1 : Hid (Ax0 w w0 s o ps po pr a n c b m d z) := Lib.hid (by have h := H0.out; rw [hps, hpo, hpr] at h; exact h)
 rw [hps, hpo, hpr]
 clear hps hpo hpr H0
 go_wp2_with (refine wpList_run rfl (exec_load39 rfl rfl H1.out.st) ?_)
 refine (right_any' (HL.out.below H1.out.old) hn (by omega)).mono ?_
 rintro e w1 ⟨r, rfl, hr, hb⟩
 have H2 := Lib.hid (H1.out.below hb)
 clear hb H1
 cases r
 ·have HE2 : Hid (appE s o = 2) := Lib.hid (by unfold appE; rw [if_neg (fun h => by have := hr.2 h; cases this)])
  clear hr
  go_wp2_with (first | (refine wpList_run rfl (exec_zero39 HZ.out rfl) ?_) | (refine wpList_stop39 rfl ?_))
  refine ⟨?_⟩
  refine wpList_void rfl rfl (exec_store39 (u := z) (a := none) (n := 0) (c := 0) (b := none) (m := 0) (d := 0) rfl rfl rfl H2.out.res) ?_
  have hks := Kept.setRow w1 pr (sv z none 0 0 none 0 0)
  have HB3 : Hid (Below w.heap.size w (w1.setRow pr (sv z none 0 0 none 0 0))) := Lib.hid (H2.out.old.trans (hks.below H2.out.old.size (fun k hk => by have := HPS.out; omega)))
  have HR3 : Hid (Blk (w1.setRow pr (sv z none 0 0 none 0 0)) pr 39 (sv z none 0 0 none 0 0)) := Lib.hid H2.out.res.row
  generalize w1.setRow pr (sv z none 0 0 none 0 0) = w3 at HB3 HR3 hks
  clear hks
  go_wp2_with fail
  exact bodyPost_ret (v := .tuple #[.agg (sv z none 0 0 none 0 0), .int .i64 ((2 : Nat) : Int)]) (ret39_two rfl rfl rfl HR3.out) rfl (HZE.out 2 _ HE2.out (by omega) HB3.out)
 ·have hR : s.Right := hr.1 rfl
  have HR := Lib.hid hR
  have HE2 : Hid (appE s o = O.readyE s.v o) := Lib.hid (by unfold appE; rw [if_pos hR])
  clear hr hR
  go_wp2_with (first | (refine wpList_run rfl (exec_stV (v := s.v) rfl rfl H2.out.st) ?_) | (refine wpList_run rfl (exec_load33 (p := o) rfl rfl H2.out.op) ?_))
  refine (ready_any s.v o _).mono ?_
  rintro e w2 ⟨rfl, hb⟩
  have H3 := Lib.hid (H2.out.below hb)
  clear hb H2
  obtain ⟨er, her⟩ : ∃ er, O.readyE s.v o = er := ⟨_, rfl⟩
  have HER := Lib.hid her
  rw [her] at HE2 ⊢
  clear her
  by_cases h0 : er = 0
  ·subst h0
   have HNX : Hid (V.nextE s.v o.r o.s = 0) := Lib.hid (ready_next HER.out)
   obtain ⟨u, hu⟩ : ∃ u, V.nextV s.v o.r o.s = u := ⟨_, rfl⟩
   have HU : Hid (u = V.put s.v o.r o.s) := Lib.hid (by rw [← hu]; unfold V.nextV; rw [if_pos HNX.out])
   have HN := Lib.hid (fun w => next_any s.v o.r o.s w o.hr o.hs)
   rw [hu, HNX.out] at HN
   clear hu
   go_wp2_with (first | (refine wpList_run rfl (exec_stV (v := s.v) rfl rfl H3.out.st) ?_) | (refine wpList_run rfl (exec_dot (p := o) rfl rfl H3.out.op) ?_))
   refine (HN.out _).mono ?_
   rintro e w3 ⟨rfl, hb⟩
   have H4 := Lib.hid (H3.out.below hb)
   clear hb H3 HN
   go_wp2_with (first | (refine wpList_alloc24 HZ.out rfl rfl ?_) | (refine wpList_stop rfl ?_))
   refine ⟨?_⟩
   refine wpList_store24 rfl rfl rfl rfl (Blk.new w3 24 z.arr) ?_
   have H5 := Lib.hid (H4.out.below (laid_old w3 z u))
   have HV5 := Lib.hid (laid_blk w3 z u)
   generalize (w3.alloc (.cells z.arr 24)).setRow w3.heap.size u.arr = w4 at H5 HV5
   have HPV : Hid (w.heap.size ≤ w3.heap.size) := Lib.hid H4.out.old.size
   have HRV : Hid (pr < w3.heap.size) := Lib.hid H4.out.res.lt
   generalize w3.heap.size = pv at HV5 HPV HRV
   clear H4
   go_wp2_with fail
   have HAX : Hid (Ax w4 s o u ps po pv a n c b m d) := Lib.hid ⟨H5.out.st, H5.out.op, HV5.out⟩
   refine wp_region_held_drew (S := fun w' => Ax w' s o u ps po pv a n c b m d) (by kernel_rfl) (HAX.out.below (drew_below _)) (fun hS => ?_)
   refine held_tk 0 29 (.agg u.arr) rfl rfl (by kernel_rfl) (fun _ _ _ h=>h) (fun _ h=>exec_load24 (v:=u) rfl rfl h.vec) hS ?_;simp only [Act.put,ap1,ap2,ap3]
   refine held_tk 1 30 (.pointer (some ⟨ps,16,none⟩)) rfl rfl (by kernel_rfl) (fun _ _ _ h=>h) (fun _ _=>(by kernel_rfl)) hS ?_;simp only [Act.put,ap1,ap2,ap3]
   refine held_tk 2 31 (.slice a n c) rfl rfl (by kernel_rfl) (fun _ _ _ h=>h) (fun _ h=>exec_cell rfl rfl (load_cell (by kernel_rfl) (stc16 h.st))) hS ?_;simp only [Act.put,ap1,ap2,ap3]
   refine held_tk 3 32 (.agg o.arr) rfl rfl (by kernel_rfl) (fun _ _ _ h=>h) (fun _ h=>exec_load33 (p:=o) rfl rfl h.op) hS ?_;simp only [Act.put,ap1,ap2,ap3]
   refine held_tk 5 34 (.pointer (some ⟨ps,17,none⟩)) rfl rfl (by kernel_rfl) (fun _ _ _ h=>h) (fun _ _=>(by kernel_rfl)) hS ?_;simp only [Act.put,ap1,ap2,ap3]
   refine held_tk 6 35 (.slice b m d) rfl rfl (by kernel_rfl) (fun _ _ _ h=>h) (fun _ h=>exec_cell rfl rfl (load_cell (by kernel_rfl) (stc17 h.st))) hS ?_;simp only [Act.put,ap1,ap2,ap3]
   refine held_tk 7 36 (.agg o.arr) rfl rfl (by kernel_rfl) (fun _ _ _ h=>h) (fun _ h=>exec_load33 (p:=o) rfl rfl h.op) hS ?_;simp only [Act.put,ap1,ap2,ap3]
   refine held_callP 4 33 42 #[.slice a n c,.agg o.arr] rfl (by kernel_rfl) rfl (by kernel_rfl) (by kernel_rfl) (applyEntries_any (HL.out.es.below (H5.out.old.trans ((drew_below w4).mono H5.out.old.size))) (by omega) HR.out.ord o (ready_new HR.out HER.out) (ready_lays HER.out)) (fun e w5 hP=>?_)
   obtain ⟨a5, c5, rfl, ho5, hb5⟩ := hP
   refine ⟨_, rfl, hS.below hb5, fun hS => ?_⟩
   simp only [Act.put, ap1, ap2, ap3]
   have HB5 : Hid (Below w.heap.size w w5) := Lib.hid ((H5.out.old.trans ((drew_below w4).mono H5.out.old.size)).trans (hb5.mono H5.out.old.size))
   refine held_callP 8 37 43 #[.slice b m d,.agg o.arr] rfl (by kernel_rfl) rfl (by kernel_rfl) (by kernel_rfl) (applyTick_any (HL.out.ts.below HB5.out) (by omega) HR.out.ts.up o) (fun e w6 hP=>?_)
   obtain ⟨a6, c6, rfl, ho6, hb6⟩ := hP
   refine ⟨_, rfl, hS.below hb6, fun hS => ?_⟩
   simp only [Act.put, ap1, ap2, ap3]
   have HB6 : Hid (Below w.heap.size w w6) := Lib.hid (HB5.out.trans (hb6.mono HB5.out.size))
   have HRES : Hid (Blk w6 pr 39 (sv z none 0 0 none 0 0)) := Lib.hid (((H5.out.res.below (drew_below w4)).below hb5).below hb6)
   have HO5 : Hid (OwnG w6 72 7 w.heap.size a5 (cellsE (applyE s.es o)).length c5 (cellsE (applyE s.es o))) := Lib.hid ((ho5.below hb6).mono (Nat.le_trans H5.out.old.size (Nat.le_refl _)))
   have HO6 : Hid (OwnG w6 96 2 w.heap.size a6 (cellsL (ticked (tickO o) s.ts)).length c6 (cellsL (ticked (tickO o) s.ts))) := Lib.hid (ho6.mono HB5.out.size)
   have HNE5 : Hid (∀ ad, a5 = some ad → ¬ ad.block = pr) := Lib.hid (fun ad e => by have := (ho5.lt ad e).1; have := HRES.out.lt; have h9 := H5.out.res.lt; have : w4.drew.heap.size = w4.heap.size := rfl; omega)
   have HNE6 : Hid (∀ ad, a6 = some ad → ¬ ad.block = pr) := Lib.hid (fun ad e => by have := (ho6.lt ad e).1; have h9 := H5.out.res.lt; have := hb5.size; have : w4.drew.heap.size = w4.heap.size := rfl; omega)
   clear ho5 ho6 hb5 hb6
   refine held_tk 9 38 (.agg (sv u a5 (cellsE (applyE s.es o)).length c5 a6 (cellsL (ticked (tickO o) s.ts)).length c6)) rfl rfl (by kernel_rfl) (fun _ _ _ h=>h) (fun _ _=>exec_build39 rfl rfl rfl rfl) hS ?_;simp only [Act.put,ap1,ap2,ap3]
   have hks := Kept.setRow w6 pr (sv u a5 (cellsE (applyE s.es o)).length c5 a6 (cellsL (ticked (tickO o) s.ts)).length c6)
   refine held_void 10 rfl rfl (by kernel_rfl) (by kernel_rfl) (exec_store39 rfl rfl rfl HRES.out) ⟨hS.st.kept hks (by have:=HPS.out; omega),hS.op.kept hks (by have:=HPS.out; omega),hS.vec.kept hks (by have:=HRV.out; omega)⟩ ?_
   have HSX := Lib.hid (show Ax (w6.setRow pr (sv u a5 (cellsE (applyE s.es o)).length c5 a6 (cellsL (ticked (tickO o) s.ts)).length c6)) s o u ps po pv a n c b m d from ⟨hS.st.kept hks (by have := HPS.out; omega), hS.op.kept hks (by have := HPS.out; omega), hS.vec.kept hks (by have := HRV.out; omega)⟩)
   have HF : Hid (StP (appS s o) (appE s o) w (.returned (.tuple #[.agg (sv u a5 (cellsE (applyE s.es o)).length c5 a6 (cellsL (ticked (tickO o) s.ts)).length c6), .int .i64 0])) (w6.setRow pr (sv u a5 (cellsE (applyE s.es o)).length c5 a6 (cellsL (ticked (tickO o) s.ts)).length c6))) := Lib.hid (by
    have e1 : appS s o = applyS s o := by unfold appS; rw [if_pos HE2.out]
    rw [e1, HE2.out]
    refine ⟨a5, _, c5, a6, _, c6, by rw [show (applyS s o).v = u from HU.out.symm]; rfl, HO5.out.keep hks HNE5.out, HO6.out.keep hks HNE6.out, HB6.out.trans (hks.below HB6.out.size (fun k hk => by have := HPS.out; omega))⟩)
   have HRB : Hid (Blk (w6.setRow pr (sv u a5 (cellsE (applyE s.es o)).length c5 a6 (cellsL (ticked (tickO o) s.ts)).length c6)) pr 39 (sv u a5 (cellsE (applyE s.es o)).length c5 a6 (cellsL (ticked (tickO o) s.ts)).length c6)) := Lib.hid HRES.out.row
   generalize w6.setRow pr (sv u a5 (cellsE (applyE s.es o)).length c5 a6 (cellsL (ticked (tickO o) s.ts)).length c6) = w7 at HF HRB hks HSX
   clear hks hS
   refine held_tk 11 5 (.int .i64 0) rfl rfl (by kernel_rfl) (fun _ _ _ h=>h) (fun _ _=>rfl) HSX.out ?_;simp only [Act.put,ap1,ap2,ap3]
   refine wpAnyH_done (by kernel_rfl) ?_ _
   go_wp2_with fail
   exact bodyPost_ret (v := .tuple #[.agg (sv u a5 (cellsE (applyE s.es o)).length c5 a6 (cellsL (ticked (tickO o) s.ts)).length c6), .int .i64 0]) (ret39_two rfl rfl rfl HRB.out) rfl HF.out
  ·have hne : ((er : Int) != 0) = true := by simp [h0]
   go_wp2_with (first | (refine wpList_run rfl (exec_zero39 HZ.out rfl) ?_) | (refine wpList_stop39 rfl ?_))
   refine ⟨?_⟩
   refine wpList_void rfl rfl (exec_store39 (u := z) (a := none) (n := 0) (c := 0) (b := none) (m := 0) (d := 0) rfl rfl rfl H3.out.res) ?_
   have hks := Kept.setRow w2 pr (sv z none 0 0 none 0 0)
   have HB3 : Hid (Below w.heap.size w (w2.setRow pr (sv z none 0 0 none 0 0))) := Lib.hid (H3.out.old.trans (hks.below H3.out.old.size (fun k hk => by have := HPS.out; omega)))
   have HR3 : Hid (Blk (w2.setRow pr (sv z none 0 0 none 0 0)) pr 39 (sv z none 0 0 none 0 0)) := Lib.hid H3.out.res.row
   generalize w2.setRow pr (sv z none 0 0 none 0 0) = w3 at HB3 HR3 hks
   clear hks
   go_wp2_with fail
   exact bodyPost_ret (v := .tuple #[.agg (sv z none 0 0 none 0 0), .int .i64 (er : Int)]) (ret39_two rfl rfl rfl HR3.out) rfl (HZE.out er _ HE2.out h0 HB3.out)
end Go.Proofs.YtnekpgmgnepdoaaGreat
end
section
namespace Go.Proofs.YtnekpgmgnepdoaaGreat
open Go.RowKit
inductive MgA (s t : Sta) : Nat → Sta → Prop where
 | ok {m : Sta} (h1 : s.Right) (h2 : t.Right) (hc : ¬ Clash s t) (h : Merg s t m) : MgA s t 0 m
 | clash (h1 : s.Right) (h2 : t.Right) (hc : Clash s t) : MgA s t 5 Sta.zero
 | not (h : ¬ (s.Right ∧ t.Right)) : MgA s t 2 Sta.zero
def MgP (s t : Sta) (w : World) (e : Ending) (w' : World) : Prop := ∃ er m, MgA s t er m ∧ StP m er w e w'
structure Mx (W : World) (s t : Sta) (p0 p1 : Nat) (a : Option Addr) (n c : Nat) (b : Option Addr) (m d : Nat) (a2 : Option Addr) (n2 c2 : Nat) (b2 : Option Addr) (m2 d2 : Nat) : Prop where
 sa : Blk W p0 39 (sv s.v a n c b m d)
 sb : Blk W p1 39 (sv t.v a2 n2 c2 b2 m2 d2)
theorem Mx.below {W W' : World} {s t : Sta} {p0 p1 n c m d n2 c2 m2 d2 : Nat} {a b a2 b2 : Option Addr} (h : Mx W s t p0 p1 a n c b m d a2 n2 c2 b2 m2 d2) (hb : Below W.heap.size W W') : Mx W' s t p0 p1 a n c b m d a2 n2 c2 b2 m2 d2 := ⟨h.sa.below hb, h.sb.below hb⟩
structure Mx0 (w W : World) (s t : Sta) (p0 p1 pr : Nat) (a : Option Addr) (n c : Nat) (b : Option Addr) (m d : Nat) (a2 : Option Addr) (n2 c2 : Nat) (b2 : Option Addr) (m2 d2 : Nat) (z : V) : Prop where
 sa : Blk W p0 39 (sv s.v a n c b m d)
 sb : Blk W p1 39 (sv t.v a2 n2 c2 b2 m2 d2)
 res : Blk W pr 39 (sv z none 0 0 none 0 0)
 old : Below w.heap.size w W
theorem Mx0.below {w W W' : World} {s t : Sta} {p0 p1 pr n c m d n2 c2 m2 d2 : Nat} {a b a2 b2 : Option Addr} {z : V} (h : Mx0 w W s t p0 p1 pr a n c b m d a2 n2 c2 b2 m2 d2 z) (hb : Below W.heap.size W W') : Mx0 w W' s t p0 p1 pr a n c b m d a2 n2 c2 b2 m2 d2 z := ⟨h.sa.below hb, h.sb.below hb, h.res.below hb, h.old.trans (hb.mono h.old.size)⟩
theorem mx0_new (w : World) (s t : Sta) (a : Option Addr) (n c : Nat) (b : Option Addr) (m d : Nat) (a2 : Option Addr) (n2 c2 : Nat) (b2 : Option Addr) (m2 d2 : Nat) (z : V) : Mx0 w (((w.alloc (.cells (sv s.v a n c b m d) 39)).alloc (.cells (sv t.v a2 n2 c2 b2 m2 d2) 39)).alloc (.cells (sv z none 0 0 none 0 0) 39)) s t w.heap.size (w.heap.size + 1) (w.heap.size + 1 + 1) a n c b m d a2 n2 c2 b2 m2 d2 z := by
 have h1 := Blk.new w 39 (sv s.v a n c b m d)
 have h2 := Blk.new (w.alloc (.cells (sv s.v a n c b m d) 39)) 39 (sv t.v a2 n2 c2 b2 m2 d2)
 have h3 := Blk.new ((w.alloc (.cells (sv s.v a n c b m d) 39)).alloc (.cells (sv t.v a2 n2 c2 b2 m2 d2) 39)) 39 (sv z none 0 0 none 0 0)
 have b2' := below_one (w.alloc (.cells (sv s.v a n c b m d) 39)) (.cells (sv t.v a2 n2 c2 b2 m2 d2) 39)
 have b3 := below_one ((w.alloc (.cells (sv s.v a n c b m d) 39)).alloc (.cells (sv t.v a2 n2 c2 b2 m2 d2) 39)) (.cells (sv z none 0 0 none 0 0) 39)
 simp only [World.size_alloc] at h2 h3
 exact ⟨(h1.below b2').below b3, h2.below b3, h3, ((below_one w _).trans (b2'.mono (by simp))).trans (b3.mono (by simp; omega))⟩
set_option maxRecDepth 100000 in
set_option maxHeartbeats 8000000 in
theorem merge_any {s t : Sta} {a b a2 b2 : Option Addr} {n c m d n2 c2 m2 d2 : Nat} {w : World} (hs : SL w s a n b m) (ht : SL w t a2 n2 b2 m2) (hn : n < 100) (hm : m < 200000) (hn2 : n2 < 100) (hm2 : m2 < 200000) : Calls Tryz.prog 21 #[.agg (sv s.v a n c b m d), .agg (sv t.v a2 n2 c2 b2 m2 d2)] w (MgP s t w) := by
 have HS := Lib.hid hs
 have HT := Lib.hid ht
 obtain ⟨z, hz⟩ : ∃ z, V.zero = z := ⟨_, rfl⟩
 have HZ := Lib.hid hz
 have hb1 := fun (v : V) x y w => box39 v x y w
 have H0 := Lib.hid (mx0_new w s t a n c b m d a2 n2 c2 b2 m2 d2 z)
 have HZE : Hid (∀ er W, MgA s t er Sta.zero → Below w.heap.size w W → MgP s t w (.returned (.tuple #[.agg (sv z none 0 0 none 0 0), .int .i64 (er : Int)])) W) := Lib.hid (fun er W he hb =>
  ⟨er, _, he, none, 0, 0, none, 0, 0, by rw [← hz]; rfl, ownG_nil _ _ _ _, ownG_nil _ _ _ _, hb⟩)
 clear hs ht hz
 go_enter Tryz.func21, Tryz.ntmps21
 go_upto_region 1 with (refine wpList_run rfl (exec_alloc39z HZ.out rfl) ?_)
 clear hb1
 generalize ((w.alloc (.cells (sv s.v a n c b m d) 39)).alloc (.cells (sv t.v a2 n2 c2 b2 m2 d2) 39)).alloc (.cells (sv z none 0 0 none 0 0) 39) = w0 at H0
 obtain ⟨p0, hp0⟩ : ∃ p, w.heap.size = p := ⟨_, rfl⟩
 obtain ⟨p1, hp1⟩ : ∃ p, p0 + 1 = p := ⟨_, rfl⟩
 obtain ⟨pr, hpr⟩ : ∃ p, p1 + 1 = p := ⟨_, rfl⟩
 have HPS : Hid (w.heap.size = p0 ∧ p0 + 1 = p1 ∧ p1 + 1 = pr) := Lib.hid ⟨hp0, hp1, hpr⟩
 have H1 : Hid (Mx0 w w0 s t p0 p1 pr a n c b m d a2 n2 c2 b2 m2 d2 z) := Lib.hid (by have h := H0.out; rw [hp0, hp1, hpr] at h; exact h)
 rw [hp0, hp1, hpr]
 clear hp0 hp1 hpr H0
 go_wp2_with (refine wpList_run rfl (exec_load39 rfl rfl H1.out.sa) ?_)
 refine (right_any' (HS.out.below H1.out.old) hn (by omega)).mono ?_
 rintro e w1 ⟨r, rfl, hr, hb⟩
 have H2 := Lib.hid (H1.out.below hb)
 clear hb H1
 cases r
 ·have HF : Hid (MgA s t 2 Sta.zero) := Lib.hid (.not (fun h => by have := hr.2 h.1; cases this))
  clear hr
  go_wp2_with (first | (refine wpList_run rfl (exec_zero39 HZ.out rfl) ?_) | (refine wpList_stop39 rfl ?_))
  refine ⟨?_⟩
  refine wpList_void rfl rfl (exec_store39 (u := z) (a := none) (n := 0) (c := 0) (b := none) (m := 0) (d := 0) rfl rfl rfl H2.out.res) ?_
  have hks := Kept.setRow w1 pr (sv z none 0 0 none 0 0)
  have HB3 : Hid (Below w.heap.size w (w1.setRow pr (sv z none 0 0 none 0 0))) := Lib.hid (H2.out.old.trans (hks.below H2.out.old.size (fun k hk => by have := HPS.out; omega)))
  have HR3 : Hid (Blk (w1.setRow pr (sv z none 0 0 none 0 0)) pr 39 (sv z none 0 0 none 0 0)) := Lib.hid H2.out.res.row
  generalize w1.setRow pr (sv z none 0 0 none 0 0) = w3 at HB3 HR3 hks
  clear hks
  go_wp2_with fail
  exact bodyPost_ret (v := .tuple #[.agg (sv z none 0 0 none 0 0), .int .i64 ((2 : Nat) : Int)]) (ret39_two rfl rfl rfl HR3.out) rfl (HZE.out 2 _ HF.out HB3.out)
 ·have HR := Lib.hid (hr.1 rfl)
  clear hr
  go_wp2_with (refine wpList_runW (exec_load39 rfl rfl H2.out.sb) (by kernel_rfl) ?_)
  refine (right_any' (HT.out.below H2.out.old) hn2 (by omega)).mono ?_
  rintro e w2 ⟨r, rfl, hr, hb⟩
  have H3 := Lib.hid (H2.out.below hb)
  clear hb H2
  cases r
  ·have HF : Hid (MgA s t 2 Sta.zero) := Lib.hid (.not (fun h => by have := hr.2 h.2; cases this))
   clear hr
   go_wp2_with (first | (refine wpList_run rfl (exec_zero39 HZ.out rfl) ?_) | (refine wpList_stop39 rfl ?_))
   refine ⟨?_⟩
   refine wpList_void rfl rfl (exec_store39 (u := z) (a := none) (n := 0) (c := 0) (b := none) (m := 0) (d := 0) rfl rfl rfl H3.out.res) ?_
   have hks := Kept.setRow w2 pr (sv z none 0 0 none 0 0)
   have HB3 : Hid (Below w.heap.size w (w2.setRow pr (sv z none 0 0 none 0 0))) := Lib.hid (H3.out.old.trans (hks.below H3.out.old.size (fun k hk => by have := HPS.out; omega)))
   have HR3 : Hid (Blk (w2.setRow pr (sv z none 0 0 none 0 0)) pr 39 (sv z none 0 0 none 0 0)) := Lib.hid H3.out.res.row
   generalize w2.setRow pr (sv z none 0 0 none 0 0) = w3 at HB3 HR3 hks
   clear hks
   go_wp2_with fail
   exact bodyPost_ret (v := .tuple #[.agg (sv z none 0 0 none 0 0), .int .i64 ((2 : Nat) : Int)]) (ret39_two rfl rfl rfl HR3.out) rfl (HZE.out 2 _ HF.out HB3.out)
  ·have HR2 := Lib.hid (hr.1 rfl)
   clear hr
   have HME := Lib.hid (fun W (hb : Below w.heap.size w W) => mergeEntries_any (c := c) (d := d) (c2 := c2) (d2 := d2) (HS.out.below hb) (HT.out.below hb) (by omega) (by omega) HR.out HR2.out)
   go_wp2_with (first | (refine wpList_run rfl (exec_load39 (v := s.v) rfl rfl H3.out.sa) ?_) | (refine wpList_run rfl (exec_load39 (v := t.v) rfl rfl H3.out.sb) ?_))
   refine (HME.out _ H3.out.old).mono ?_
   rintro e w4 (⟨hcl, rfl, hb⟩ | ⟨hcl, a5, n5, c5, es, rfl, ho5, hord, hmem, hb⟩)
   ·have H4 := Lib.hid (H3.out.below hb)
    have HF : Hid (MgA s t 5 Sta.zero) := Lib.hid (.clash HR.out HR2.out hcl)
    clear hb hcl H3 HME
    go_wp2_with (first | (refine wpList_run rfl (exec_zero39 HZ.out rfl) ?_) | (refine wpList_stop39 rfl ?_))
    refine ⟨?_⟩
    refine wpList_void rfl rfl (exec_store39 (u := z) (a := none) (n := 0) (c := 0) (b := none) (m := 0) (d := 0) rfl rfl rfl H4.out.res) ?_
    have hks := Kept.setRow w4 pr (sv z none 0 0 none 0 0)
    have HB3 : Hid (Below w.heap.size w (w4.setRow pr (sv z none 0 0 none 0 0))) := Lib.hid (H4.out.old.trans (hks.below H4.out.old.size (fun k hk => by have := HPS.out; omega)))
    have HR3 : Hid (Blk (w4.setRow pr (sv z none 0 0 none 0 0)) pr 39 (sv z none 0 0 none 0 0)) := Lib.hid H4.out.res.row
    generalize w4.setRow pr (sv z none 0 0 none 0 0) = w3 at HB3 HR3 hks
    clear hks
    go_wp2_with fail
    exact bodyPost_ret (v := .tuple #[.agg (sv z none 0 0 none 0 0), .int .i64 ((5 : Nat) : Int)]) (ret39_two rfl rfl rfl HR3.out) rfl (HZE.out 5 _ HF.out HB3.out)
   have H4 := Lib.hid (H3.out.below hb)
   have HCL := Lib.hid hcl
   have HORD := Lib.hid hord
   have HMEM := Lib.hid hmem
   have HO5 := Lib.hid ho5
   have HW3 : Hid (w.heap.size ≤ w2.heap.size) := Lib.hid H3.out.old.size
   have HRW : Hid (pr < w2.heap.size) := Lib.hid H3.out.res.lt
   clear hb hcl hord hmem ho5 H3 HME
   go_wp2_with fail
   have HAX : Hid (Mx w4 s t p0 p1 a n c b m d a2 n2 c2 b2 m2 d2) := Lib.hid ⟨H4.out.sa, H4.out.sb⟩
   refine wp_region_held_drew (S := fun w' => Mx w' s t p0 p1 a n c b m d a2 n2 c2 b2 m2 d2) (by kernel_rfl) (HAX.out.below (drew_below _)) (fun hS => ?_)
   refine held_tk 0 27 (.pointer (some ⟨p0,0,none⟩)) rfl rfl (by kernel_rfl) (fun _ _ _ h=>h) (fun _ _=>(by kernel_rfl)) hS ?_;simp only [Act.put,ap1,ap2,ap3]
   refine held_tk 1 28 (.agg s.v.arr) rfl rfl (by kernel_rfl) (fun _ _ _ h=>h) (fun _ h=>exec_stV (v:=s.v) rfl rfl h.sa) hS ?_;simp only [Act.put,ap1,ap2,ap3]
   refine held_tk 2 29 (.pointer (some ⟨p1,0,none⟩)) rfl rfl (by kernel_rfl) (fun _ _ _ h=>h) (fun _ _=>(by kernel_rfl)) hS ?_;simp only [Act.put,ap1,ap2,ap3]
   refine held_tk 3 30 (.agg t.v.arr) rfl rfl (by kernel_rfl) (fun _ _ _ h=>h) (fun _ h=>exec_stV (v:=t.v) rfl rfl h.sb) hS ?_;simp only [Act.put,ap1,ap2,ap3]
   refine held_tk 5 32 (.slice a5 n5 c5) rfl rfl (by kernel_rfl) (fun _ _ _ h=>h) (fun _ _=>rfl) hS ?_;simp only [Act.put,ap1,ap2,ap3]
   refine held_tk 6 33 (.pointer (some ⟨p0,17,none⟩)) rfl rfl (by kernel_rfl) (fun _ _ _ h=>h) (fun _ _=>(by kernel_rfl)) hS ?_;simp only [Act.put,ap1,ap2,ap3]
   refine held_tk 7 34 (.slice b m d) rfl rfl (by kernel_rfl) (fun _ _ _ h=>h) (fun _ h=>exec_cell rfl rfl (load_cell (by kernel_rfl) (stc17 h.sa))) hS ?_;simp only [Act.put,ap1,ap2,ap3]
   refine held_tk 8 35 (.pointer (some ⟨p1,17,none⟩)) rfl rfl (by kernel_rfl) (fun _ _ _ h=>h) (fun _ _=>(by kernel_rfl)) hS ?_;simp only [Act.put,ap1,ap2,ap3]
   refine held_tk 9 36 (.slice b2 m2 d2) rfl rfl (by kernel_rfl) (fun _ _ _ h=>h) (fun _ h=>exec_cell rfl rfl (load_cell (by kernel_rfl) (stc17 h.sb))) hS ?_;simp only [Act.put,ap1,ap2,ap3]
   obtain ⟨u, hu⟩ : ∃ u, V.join s.v t.v = u := ⟨_, rfl⟩
   have HJ := Lib.hid (fun w => join_any s.v t.v w)
   rw [hu] at HJ
   have HU := Lib.hid hu
   clear hu
   refine held_callP 4 31 57 #[.agg s.v.arr,.agg t.v.arr] rfl (by kernel_rfl) rfl (by kernel_rfl) (by kernel_rfl) (HJ.out _) (fun e w5 hP=>?_)
   obtain ⟨rfl, hb5⟩ := hP
   refine ⟨_, rfl, hS.below hb5, fun hS => ?_⟩
   simp only [Act.put, ap1, ap2, ap3]
   have HB5 : Hid (Below w.heap.size w w5) := Lib.hid ((H4.out.old.trans ((drew_below w4).mono H4.out.old.size)).trans (hb5.mono H4.out.old.size))
   have HO5b := Lib.hid ((HO5.out.below (drew_below w4)).below hb5)
   have HRS5 := Lib.hid ((H4.out.res.below (drew_below w4)).below hb5)
   have HR5 : Hid (pr < w5.heap.size) := Lib.hid HRS5.out.lt
   refine held_callP 10 37 58 #[.slice b m d,.slice b2 m2 d2] rfl (by kernel_rfl) rfl (by kernel_rfl) (by kernel_rfl) (mergeTicks_any (HS.out.ts.below HB5.out) (HT.out.ts.below HB5.out) (by omega) HR.out.ts.up HR2.out.ts.up) (fun e w6 hP=>?_)
   obtain ⟨a6, n6, c6, ts, rfl, ho6, hup, htk, hb6⟩ := hP
   refine ⟨_, rfl, hS.below hb6, fun hS => ?_⟩
   simp only [Act.put, ap1, ap2, ap3]
   have HB6 : Hid (Below w.heap.size w w6) := Lib.hid (HB5.out.trans (hb6.mono HB5.out.size))
   have HRES : Hid (Blk w6 pr 39 (sv z none 0 0 none 0 0)) := Lib.hid (HRS5.out.below hb6)
   have HOE : Hid (OwnG w6 72 7 w.heap.size a5 n5 c5 (cellsE es)) := Lib.hid ((HO5b.out.below hb6).mono HW3.out)
   have HOT : Hid (OwnG w6 96 2 w.heap.size a6 n6 c6 (cellsL ts)) := Lib.hid (ho6.mono HB5.out.size)
   have HNE5 : Hid (∀ ad, a5 = some ad → ¬ ad.block = pr) := Lib.hid (fun ad e => by have := (HO5.out.lt ad e).1; have := HRW.out; omega)
   have HNE6 : Hid (∀ ad, a6 = some ad → ¬ ad.block = pr) := Lib.hid (fun ad e => by have := (ho6.lt ad e).1; have := HR5.out; omega)
   have HMG : Hid (MgA s t 0 ⟨u, es, ts⟩) := Lib.hid (.ok HR.out HR2.out HCL.out ⟨HU.out.symm, HORD.out, HMEM.out, hup, fun c => by rw [htk c]; rfl⟩)
   clear ho6 hup htk hb5 hb6 HO5 HO5b HRS5
   refine held_tk 11 38 (.agg (sv u a5 n5 c5 a6 n6 c6)) rfl rfl (by kernel_rfl) (fun _ _ _ h=>h) (fun _ _=>exec_build39 rfl rfl rfl rfl) hS ?_;simp only [Act.put,ap1,ap2,ap3]
   have hks := Kept.setRow w6 pr (sv u a5 n5 c5 a6 n6 c6)
   have HSX := Lib.hid (show Mx (w6.setRow pr (sv u a5 n5 c5 a6 n6 c6)) s t p0 p1 a n c b m d a2 n2 c2 b2 m2 d2 from ⟨hS.sa.kept hks (by have := HPS.out; omega), hS.sb.kept hks (by have := HPS.out; omega)⟩)
   refine held_void 12 rfl rfl (by kernel_rfl) (by kernel_rfl) (exec_store39 rfl rfl rfl HRES.out) HSX.out ?_
   have HF : Hid (MgP s t w (.returned (.tuple #[.agg (sv u a5 n5 c5 a6 n6 c6), .int .i64 0])) (w6.setRow pr (sv u a5 n5 c5 a6 n6 c6))) := Lib.hid ⟨0, _, HMG.out, a5, n5, c5, a6, n6, c6, rfl, HOE.out.keep hks HNE5.out, HOT.out.keep hks HNE6.out, HB6.out.trans (hks.below HB6.out.size (fun k hk => by have := HPS.out; omega))⟩
   have HRB : Hid (Blk (w6.setRow pr (sv u a5 n5 c5 a6 n6 c6)) pr 39 (sv u a5 n5 c5 a6 n6 c6)) := Lib.hid HRES.out.row
   generalize w6.setRow pr (sv u a5 n5 c5 a6 n6 c6) = w7 at HF HRB hks HSX
   clear hks hS
   refine held_tk 13 5 (.int .i64 0) rfl rfl (by kernel_rfl) (fun _ _ _ h=>h) (fun _ _=>rfl) HSX.out ?_;simp only [Act.put,ap1,ap2,ap3]
   refine wpAnyH_done (by kernel_rfl) ?_ _
   go_wp2_with fail
   exact bodyPost_ret (v := .tuple #[.agg (sv u a5 n5 c5 a6 n6 c6), .int .i64 0]) (ret39_two rfl rfl rfl HRB.out) rfl HF.out
end Go.Proofs.YtnekpgmgnepdoaaGreat
end
