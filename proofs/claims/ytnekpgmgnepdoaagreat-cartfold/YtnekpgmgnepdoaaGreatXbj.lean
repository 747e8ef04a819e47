import Derived.Test.YtnekpgmgnepdoaaGreatXas
import Derived.Test.YtnekpgmgnepdoaaGreatXbf
section
namespace Go.Proofs.YtnekpgmgnepdoaaGreat
open Go.RowKit
theorem runs_split : ∀ {l m : List O} {s : Sta}, Runs s.v (l ++ m) → Runs s.v l ∧ Runs (stOf s l).v m
 | [], _, _, h => ⟨trivial, h⟩
 | o :: l, m, s, h => by
  obtain ⟨h1, h2⟩ := runs_split (l := l) (s := applyS s o) h.2
  exact ⟨⟨h.1, h1⟩, h2⟩
theorem stOf_app (s : Sta) (l : List O) (o : O) : stOf s (l ++ [o]) = applyS (stOf s l) o := by
 unfold stOf; rw [List.foldl_append]; rfl
theorem appS_of {s : Sta} {o : O} (hr : s.Right) (h : O.readyE s.v o = 0) : appE s o = 0 ∧ appS s o = applyS s o := by
 have e : appE s o = 0 := by unfold appE; rw [if_pos hr]; exact h
 exact ⟨e, by unfold appS; rw [if_pos e]⟩
structure StTo (l : List O) (k : Nat) (s : Sta) : Prop where
 st : stOf Sta.zero (l.take k) = s
 spec : Spec s (l.take k)
theorem StTo.start (l : List O) : StTo l 0 Sta.zero := ⟨by simp [stOf], by simpa using Spec.zero⟩
theorem StTo.ready {l : List O} {k : Nat} {s : Sta} {x : O} (h : StTo l k s) (hr : Runs V.zero l) (hx : l[k]? = some x) : O.readyE s.v x = 0 := by
 have h1 := (List.getElem?_eq_some_iff.1 hx)
 have h2 : l.drop k = x :: l.drop (k + 1) := by rw [List.drop_eq_getElem_cons h1.1, h1.2]
 have e : l = l.take k ++ x :: l.drop (k + 1) := by rw [← h2, List.take_append_drop]
 have h3 : Runs Sta.zero.v (l.take k ++ x :: l.drop (k + 1)) := e ▸ hr
 have := (runs_split (s := Sta.zero) h3).2
 rw [h.st] at this
 exact this.1
theorem StTo.step {l : List O} {k : Nat} {s : Sta} {x : O} (h : StTo l k s) (hr : Runs V.zero l) (hx : l[k]? = some x) : StTo l (k + 1) (applyS s x) := by
 have e : l.take (k + 1) = l.take k ++ [x] := by rw [List.take_add_one, hx]; rfl
 exact ⟨by rw [e, stOf_app, h.st], by rw [e]; exact h.spec.step (h.ready hr hx)⟩
def AllP (l : List O) (w : World) (e : Ending) (w' : World) : Prop :=
 ∃ a n c b m d, e = .returned (.tuple #[.agg (sv (stOf Sta.zero l).v a n c b m d), .bool true]) ∧ SL w' (stOf Sta.zero l) a n b m ∧ Below w.heap.size w w'
structure AlW (w W : World) (pr ps : Nat) (z : V) (s : Sta) (a : Option Addr) (n c : Nat) (b : Option Addr) (m d : Nat) : Prop where
 kr : Blk W pr 39 (sv z none 0 0 none 0 0)
 ks : Blk W ps 39 (sv s.v a n c b m d)
 sl : SL W s a n b m
 old : Below w.heap.size w W
 far : (∀ ad, a = some ad → n ≠ 0 → ps < ad.block) ∧ ∀ ad, b = some ad → m ≠ 0 → ps < ad.block
theorem AlW.below {w W W' : World} {pr ps : Nat} {z : V} {s : Sta} {a : Option Addr} {n c : Nat} {b : Option Addr} {m d : Nat} (h : AlW w W pr ps z s a n c b m d) (hb : Below W.heap.size W W') : AlW w W' pr ps z s a n c b m d :=
 ⟨h.kr.below hb, h.ks.below hb, h.sl.below hb, h.old.trans (hb.mono h.old.size), h.far⟩
set_option maxRecDepth 100000 in
set_option maxHeartbeats 16000000 in
theorem all_any {a : Option Addr} {n cap : Nat} {l : List O} {w : World} (hl : OL w a n l) (hn : n ≤ 40) (hr : Runs V.zero l) : Calls Tryz.prog 30 #[.slice a n cap] w (AllP l w) := by
 have HL := Lib.hid hl
 have HLEN := Lib.hid hl.len'
 have HRUN := Lib.hid hr
 obtain ⟨z, hz⟩ : ∃ z, V.zero = z := ⟨_, rfl⟩
 have HZ := Lib.hid hz
 obtain ⟨zo, hzo⟩ : ∃ z, O.zero = z := ⟨_, rfl⟩
 have HZO := Lib.hid hzo
 obtain ⟨s0, hs0⟩ : ∃ s, Sta.zero = s := ⟨_, rfl⟩
 have HZV : Hid (s0.v = z) := Lib.hid (by rw [← hs0]; exact hz)
 have HS0 : Hid (StTo l 0 s0) := Lib.hid (hs0 ▸ StTo.start l)
 have HSE : Hid (s0.es = [] ∧ s0.ts = []) := Lib.hid (by rw [← hs0]; exact ⟨rfl, rfl⟩)
 clear hl hr hz hzo hs0
 go_enter Tryz.func30, Tryz.ntmps30
 go_upto_region 2 with (refine wpList_run rfl (exec_alloc39z HZ.out rfl) ?_)
 have HA0 : Hid (AlW w ((w.alloc (.cells (sv z none 0 0 none 0 0) 39)).alloc (.cells (sv z none 0 0 none 0 0) 39)) w.heap.size (w.heap.size + 1) z s0 none 0 0 none 0 0) := Lib.hid ⟨(Blk.new w 39 _).below (below_one _ _), by have h := Blk.new (w.alloc (.cells (sv z none 0 0 none 0 0) 39)) 39 (sv z none 0 0 none 0 0); rw [World.size_alloc] at h; rw [HZV.out]; exact h, ⟨by rw [HSE.out.1]; exact GL.nil _ _ _, by rw [HSE.out.2]; exact GL.nil _ _ _⟩, below_2 _ _ _, ⟨fun _ h => (by cases h), fun _ h => (by cases h)⟩⟩
 try simp only [World.size_alloc]
 generalize (w.alloc (.cells (sv z none 0 0 none 0 0) 39)).alloc (.cells (sv z none 0 0 none 0 0) 39) = w0 at HA0 ⊢
 obtain ⟨pr, hpr⟩ : ∃ p, w.heap.size = p := ⟨_, rfl⟩
 obtain ⟨ps, hps⟩ : ∃ p, pr + 1 = p := ⟨_, rfl⟩
 have HPS : Hid (w.heap.size = pr ∧ pr + 1 = ps) := Lib.hid ⟨hpr, hps⟩
 rw [hpr, hps] at HA0
 rw [hpr, hps]
 clear hpr hps
 go_wp2_with fail
 go_loopw [11] (fun iv W => ∃ (k : Nat) (s : Sta) (a1 : Option Addr) (n1 c1 : Nat) (b1 : Option Addr) (m1 d1 : Nat), k ≤ n ∧ iv = .int .i64 (k : Int) ∧ Hid (StTo l k s) ∧ Hid (AlW w W pr ps z s a1 n1 c1 b1 m1 d1)) (fun iv _ => n - (intOf iv).toNat)
 case atStart => exact ⟨0, s0, none, 0, 0, none, 0, 0, Nat.zero_le _, rfl, HS0, HA0⟩
 case round =>
  obtain ⟨k, s, a1, n1, c1, b1, m1, d1, hk, rfl, HST, HA⟩ := hrel
  clear HA0 HS0
  by_cases hlt : k < n
  ·obtain ⟨g, off, x, rfl, hx, hrw⟩ := OL.at (HL.out.below HA.out.old) hlt
   have HX := Lib.hid hx
   have HRW := Lib.hid hrw
   clear hx hrw
   have hn1 : n1 < 100 := by have h1 := HA.out.sl.es.len'; have h2 := HST.out.spec.len.1; rw [List.length_take] at h2; omega
   have hm1 : m1 < 200000 := by have h1 := HA.out.sl.ts.len'; have h2 := HST.out.spec.len.2; rw [List.length_take] at h2; omega
   go_wp2_with (first | (refine wpList_run rfl (exec_idxO (i := k) rfl rfl rfl rfl hlt) ?_) | (refine wpList_run rfl (exec_ldO (p := x) rfl rfl HRW.out) ?_) | (refine wpList_run rfl (exec_alloc33z HZO.out rfl) ?_) | (refine wpList_stop33 rfl ?_))
   refine ⟨?_⟩
   refine wpList_void rfl rfl (exec_store33 (p := zo) (u := x) rfl rfl rfl (Blk.new wr 33 zo.arr)) ?_
   have hbo := bo_laid wr 33 zo.arr x.arr
   have HA1 := Lib.hid (HA.out.below hbo.old)
   have HX1 := Lib.hid hbo.one
   clear hbo HA HRW
   generalize (wr.alloc (.cells zo.arr 33)).setRow wr.heap.size x.arr = w3 at HA1 HX1 ⊢
   generalize wr.heap.size = px at HX1 ⊢
   go_wp2_with (first | (refine wpList_run rfl (exec_load39 rfl rfl HA1.out.ks) ?_) | (refine wpList_run rfl (exec_load33 (p := x) rfl rfl HX1.out) ?_))
   refine (apply_any HA1.out.sl hn1 hm1 x).mono ?_
   have happ := appS_of HST.out.spec.right (HST.out.ready HRUN.out HX.out)
   rw [happ.1, happ.2]
   have HST2 := Lib.hid (HST.out.step HRUN.out HX.out)
   obtain ⟨t, ht⟩ : ∃ t, applyS s x = t := ⟨_, rfl⟩
   rw [ht] at HST2 ⊢
   clear ht happ
   rintro e w4 ⟨a2, n2, c2, b2, m2, d2, rfl, hE, hT, hb⟩
   have HFAR : Hid ((∀ ad, a2 = some ad → n2 ≠ 0 → ps < ad.block ∧ ad.block < w4.heap.size) ∧ ∀ ad, b2 = some ad → m2 ≠ 0 → ps < ad.block ∧ ad.block < w4.heap.size) := Lib.hid ⟨fun ad e _ => by have := (hE.lt ad e); have := HA1.out.ks.lt; omega, fun ad e _ => by have := (hT.lt ad e); have := HA1.out.ks.lt; omega⟩
   have HSL : Hid (SL w4 t a2 n2 b2 m2) := Lib.hid ⟨hE.gl, hT.gl⟩
   have HA2 := Lib.hid (HA1.out.below hb)
   clear hE hT hb HA1 HX1 hn1 hm1
   go_wp2_with (first | (refine wpList_run rfl (exec_alloc39z HZ.out rfl) ?_) | (refine wpList_stop39 rfl ?_))
   refine ⟨?_⟩
   refine wpList_void rfl rfl (exec_store39 rfl rfl rfl (Blk.new w4 39 _)) ?_
   have hbo := bo_laid w4 39 (sv z none 0 0 none 0 0) (sv t.v a2 n2 c2 b2 m2 d2)
   have HA3 := Lib.hid (HA2.out.below hbo.old)
   have HSL3 := Lib.hid (HSL.out.below hbo.old)
   have HT3 := Lib.hid hbo.one
   clear hbo HA2 HSL
   generalize (w4.alloc (.cells (sv z none 0 0 none 0 0) 39)).setRow w4.heap.size (sv t.v a2 n2 c2 b2 m2 d2) = w5 at HA3 HSL3 HT3 ⊢
   generalize w4.heap.size = pt at HT3 HFAR ⊢
   go_wp2_with (first | (refine wpList_run rfl (exec_load39 rfl rfl HT3.out) ?_) | (refine wpList_stop39 rfl ?_))
   refine ⟨?_⟩
   refine wpList_void rfl rfl (exec_store39 rfl rfl rfl HA3.out.ks) ?_
   have hk2 := Kept.setRow w5 ps (sv t.v a2 n2 c2 b2 m2 d2)
   have HA4 : Hid (AlW w (w5.setRow ps (sv t.v a2 n2 c2 b2 m2 d2)) pr ps z t a2 n2 c2 b2 m2 d2) := Lib.hid ⟨HA3.out.kr.kept hk2 (by have := HPS.out; omega), HA3.out.ks.row, ⟨HSL3.out.es.keep hk2 (fun ad e h => by have := (HFAR.out.1 ad e h).1; omega), HSL3.out.ts.keep hk2 (fun ad e h => by have := (HFAR.out.2 ad e h).1; omega)⟩, HA3.out.old.trans (hk2.below HA3.out.old.size (fun j e => by have := HPS.out; omega)), ⟨fun ad e h => (HFAR.out.1 ad e h).1, fun ad e h => (HFAR.out.2 ad e h).1⟩⟩
   clear hk2 HA3 HSL3 HT3
   generalize w5.setRow ps (sv t.v a2 n2 c2 b2 m2 d2) = w6 at HA4 ⊢
   go_wp2_with fail
   go_roundw
   case rel => exact ⟨k + 1, t, a2, n2, c2, b2, m2, d2, hlt, by go_num, HST2, HA4⟩
   case measure => simp [intOf]; omega
  ·have HE : Hid (stOf Sta.zero l = s) := Lib.hid (by have h := HST.out.st; rwa [List.take_of_length_le (by rw [HLEN.out]; omega)] at h)
   go_wp2_with (first | (refine wpList_run rfl (exec_load39 rfl rfl HA.out.ks) ?_) | (refine wpList_stop39 rfl ?_))
   refine ⟨?_⟩
   refine wpList_void rfl rfl (exec_store39 rfl rfl rfl HA.out.kr) ?_
   have hk2 := Kept.setRow wr pr (sv s.v a1 n1 c1 b1 m1 d1)
   have HR : Hid (Blk (wr.setRow pr (sv s.v a1 n1 c1 b1 m1 d1)) pr 39 (sv s.v a1 n1 c1 b1 m1 d1)) := Lib.hid HA.out.kr.row
   have HF : Hid (AllP l w (.returned (.tuple #[.agg (sv s.v a1 n1 c1 b1 m1 d1), .bool true])) (wr.setRow pr (sv s.v a1 n1 c1 b1 m1 d1))) := Lib.hid (by
    refine ⟨a1, n1, c1, b1, m1, d1, by rw [HE.out], ?_, HA.out.old.trans (hk2.below HA.out.old.size (fun j e => by have := HPS.out; omega))⟩
    rw [HE.out]
    exact ⟨HA.out.sl.es.keep hk2 (fun ad e h => by have := HA.out.far.1 ad e h; have := HPS.out; omega), HA.out.sl.ts.keep hk2 (fun ad e h => by have := HA.out.far.2 ad e h; have := HPS.out; omega)⟩)
   clear hk2
   generalize wr.setRow pr (sv s.v a1 n1 c1 b1 m1 d1) = w6 at HR HF ⊢
   go_wp2_with fail
   exact bodyPost_ret (v := .tuple #[.agg (sv s.v a1 n1 c1 b1 m1 d1), .bool true]) (ret39_two rfl rfl rfl HR.out) rfl HF.out
end Go.Proofs.YtnekpgmgnepdoaaGreat
end
section
namespace Go.Proofs.YtnekpgmgnepdoaaGreat
open Go.RowKit Fold
def Differ (l : List O) : Prop := l.Pairwise fun a b => ¬ (a.r = b.r ∧ a.s = b.s)
theorem map_nodup {l : List O} {r : Nat} : Differ l → (∀ o ∈ l, o.r = r) → (l.map O.s).Nodup := fun hd hr => by
 rw [List.nodup_iff_pairwise_ne, List.pairwise_map]
 unfold Differ at hd
 refine (List.Pairwise.and_mem.1 hd).imp ?_
 rintro a b ⟨ha, hb, h⟩ e
 exact h ⟨by rw [hr a ha, hr b hb], e⟩
theorem count_iff {l : List O} (hd : Differ l) (v : V) {r : Nat} (hr : r < 16) : cntTo l v r l.length = min (v.at_ r) 1048576 ↔ ∀ s, V.hasB v r s = true → ∃ p ∈ l, p.r = r ∧ p.s = s := by
 have hc : cntTo l v r l.length = ((l.filter (isIn v r)).map O.s).length := by
  unfold cntTo
  rw [List.take_of_length_le (Nat.le_refl _), List.countP_eq_length_filter, List.length_map]
 have hin : ∀ o ∈ l.filter (isIn v r), o ∈ l ∧ o.r = r ∧ V.hasB v r o.s = true := fun o ho => by
  obtain ⟨h1, h2⟩ := List.mem_filter.1 ho
  simp only [isIn, Bool.and_eq_true, decide_eq_true_eq] at h2
  obtain ⟨rfl, h3⟩ := h2
  exact ⟨h1, rfl, h3⟩
 have hnd : ((l.filter (isIn v r)).map O.s).Nodup := map_nodup (r := r) (List.Pairwise.sublist List.filter_sublist hd) (fun o ho => (hin o ho).2.1)
 have hsub : ∀ s ∈ (l.filter (isIn v r)).map O.s, s ∈ List.range' 1 (min (v.at_ r) 1048576) := fun s hs => by
  obtain ⟨o, ho, rfl⟩ := List.mem_map.1 hs
  have h := (hin o ho).2.2
  simp only [V.hasB, V.dotB, Bool.and_eq_true, decide_eq_true_eq] at h
  rw [List.mem_range'_1]
  omega
 have hhas : ∀ s, V.hasB v r s = true ↔ s ∈ List.range' 1 (min (v.at_ r) 1048576) := fun s => by
  simp only [V.hasB, V.dotB, Bool.and_eq_true, decide_eq_true_eq]
  rw [List.mem_range'_1]
  omega
 have hmem : ∀ s, s ∈ (l.filter (isIn v r)).map O.s ↔ V.hasB v r s = true ∧ ∃ p ∈ l, p.r = r ∧ p.s = s := fun s => by
  constructor
  ·intro hs
   obtain ⟨o, ho, rfl⟩ := List.mem_map.1 hs
   have h := hin o ho
   exact ⟨h.2.2, o, h.1, h.2.1, rfl⟩
  ·rintro ⟨h, p, hp, rfl, rfl⟩
   exact List.mem_map.2 ⟨p, List.mem_filter.2 ⟨hp, by simp [isIn, h]⟩, rfl⟩
 rw [hc]
 constructor
 ·intro hl s hs
  by_cases hx : s ∈ (l.filter (isIn v r)).map O.s
  ·exact ((hmem s).1 hx).2
  ·exfalso
   have h1 : (s :: (l.filter (isIn v r)).map O.s).Nodup := List.nodup_cons.2 ⟨hx, hnd⟩
   have h2 := h1.length_le_of_subset (l₂ := List.range' 1 (min (v.at_ r) 1048576)) (fun y hy => by
    rcases List.mem_cons.1 hy with rfl | hy
    ·exact (hhas _).1 hs
    ·exact hsub y hy)
   rw [List.length_cons, hl, List.length_range'] at h2
   omega
 ·intro h
  have h1 := hnd.length_le_of_subset (l₂ := List.range' 1 (min (v.at_ r) 1048576)) hsub
  have hnr : (List.range' 1 (min (v.at_ r) 1048576)).Nodup := List.nodup_range'
  have h2 := hnr.length_le_of_subset (l₂ := (l.filter (isIn v r)).map O.s) (fun y hy => (hmem y).2 ⟨(hhas y).2 hy, h y ((hhas y).2 hy)⟩)
  rw [List.length_range'] at h1 h2
  omega
theorem closed_count {l : List O} (hv : ∀ o ∈ l, V.dotB o.r o.s = true) (hd : Differ l) : Closed l ↔ ∀ o ∈ l, ∀ r, r < 16 → cntTo l o.v r l.length = min (o.v.at_ r) 1048576 := by
 constructor
 ·intro h o ho r hr
  exact (count_iff hd o.v hr).2 (fun s hs => h.known o ho r s hs)
 ·intro h
  refine ⟨hv, hd, fun o ho r s hs => ?_⟩
  have hr : r < 16 := by
   simp only [V.hasB, V.dotB, Bool.and_eq_true, decide_eq_true_eq] at hs
   omega
  exact (count_iff hd o.v hr).1 (h o ho r hr) s hs
section
variable {ev : Operand → Value} {q : Oper} {w : World}
theorem exec_cutO {x y : Operand} {b off n cap k : Nat} (ho : q.op = .slice 63 x none (some y) none) (hx : ev x = .slice (some ⟨b, off, none⟩) n cap) (hy : ev y = .int .i64 (k : Int)) (hk : k ≤ cap) : (execOp ev q).run Tryz.prog w = .ok (.value (.slice (some ⟨b, off, none⟩) k cap)) w := by
 have u63 := und63
 have z33 : ∀ w, (Go.sizeOf 33).run Tryz.prog w = .ok 23 w := Tryz.sizeOf33
 unfold execOp
 simp only [ho, hx]
 go_simp
theorem exec_ctxO {x : Operand} {b off : Nat} {p : O} (ho : q.op = .load 24 x) (hx : ev x = .pointer (some ⟨b, off + 7, none⟩)) (h : w.rangeAt b off p.cs) : (execOp ev q).run Tryz.prog w = .ok (.value (.agg p.v.arr)) w := by
 have hl := run_loadVar_mid (P := Tryz.prog) w b (off + 7) 24 p.v.cs _ (fun j u hu => by
  have := h (7 + j) u (by unfold O.cs; rw [List.getElem?_append_right (by simp [O.hd])]; simpa [O.hd] using hu)
  rw [← Nat.add_assoc] at this
  exact this) und24 rfl (by rw [p.v.cs_len]; exact size24)
 refine exec_cell ho hx ?_
 simp only [Instr.loadAt, Instr.sureAddr, Sem.run_bind, Sem.run_pure, Result.andThen_ok, hl]
theorem exec_idxV {x y : Operand} {b off r : Nat} (ho : q.op = .indexAddr 24 x y) (hx : ev x = .pointer (some ⟨b, off, none⟩)) (hy : ev y = .int .i64 (r : Int)) (hr : r < 16) : (execOp ev q).run Tryz.prog w = .ok (.value (.pointer (some ⟨b, off + r, none⟩))) w := by
 have u24 := und24
 unfold execOp
 simp only [ho, hx, hy]
 go_simp
 intro h
 omega
theorem exec_min32 {x y : Operand} {n : Nat} (ho : q.op = .call { callee := .builtin .min, args := #[x, y], argTypes := #[22, 22] }) (hx : ev x = .int .u32 (n : Int)) (hy : ev y = .int .u32 1048576) : (execOp ev q).run Tryz.prog w = .ok (.value (.int .u32 ((min n 1048576 : Nat) : Int))) w := by
 unfold execOp
 simp only [ho]
 go_simp
 omega
end
theorem op_vec {w : World} {b off r : Nat} {p : O} (h : w.rangeAt b off p.cs) (hr : r < 16) : w.cell? ⟨b, off + 7 + r, none⟩ = some (.int .u32 (p.v.at_ r : Int)) := by
 have := h (7 + r) (.int .u32 (p.v.at_ r : Int)) (by unfold O.cs; rw [List.getElem?_append_right (by simp [O.hd])]; simpa [O.hd] using V.cs_at p.v hr)
 rw [← Nat.add_assoc] at this
 exact this
theorem OL.take {w : World} {a : Option Addr} {n : Nat} {l : List O} (h : OL w a n l) {k : Nat} (hk : k ≤ n) : OL w a k (l.take k) := by
 have hl := OL.len' h
 refine ⟨by simp [cellsO]; omega, ?_⟩
 rcases h.cells with h0 | ⟨b, off, ha, hc⟩
 ·exact .inl (by omega)
 ·refine .inr ⟨b, off, ha, fun i v hv => hc i v ?_⟩
  simp only [cellsO, List.map_take] at hv ⊢
  have hi : i < k := by have := (List.getElem?_eq_some_iff.1 hv).1; simp at this; omega
  rw [List.getElem?_take_of_lt hi] at hv
  exact hv
end Go.Proofs.YtnekpgmgnepdoaaGreat
end
