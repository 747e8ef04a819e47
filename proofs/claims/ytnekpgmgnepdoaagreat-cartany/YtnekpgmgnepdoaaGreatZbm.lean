import Derived.Test.YtnekpgmgnepdoaaGreatZav
import Derived.Test.YtnekpgmgnepdoaaGreatZbl
section
namespace Go.Proofs.YtnekpgmgnepdoaaGreat
open Go.RowKit
theorem runs_split : ∀ {l m : List O} {s : Sta}, Runs s.v (l ++ m) → Runs s.v l ∧ Runs (stOf s l).v m
 | [], _, _, h => ⟨trivial, h⟩
 | o :: l, m, s, h => by
  obtain ⟨h1, h2⟩ := runs_split (l := l) (s := applyS s o) h.2
  exact ⟨⟨h.1, h1⟩, h2⟩
theorem stOf_app (s : Sta) (l : List O) (o : O) : stOf s (l ++ [o]) = applyS (stOf s l) o := by
 unfold stOf; rw [List.foldl_append]; rfl
theorem appS_of {s : Sta} {o : O} (hr : s.Right) (h : O.readyE s.v o = 0) : appE s o = 0 ∧ appS s o = applyS s o := by
 have e : appE s o = 0 := by unfold appE; rw [if_pos hr]; exact h
 exact ⟨e, by unfold appS; rw [if_pos e]⟩
structure StTo (l : List O) (k : Nat) (s : Sta) : Prop where
 st : stOf Sta.zero (l.take k) = s
 spec : Spec s (l.take k)
theorem StTo.start (l : List O) : StTo l 0 Sta.zero := ⟨by simp [stOf], by simpa using Spec.zero⟩
theorem StTo.ready {l : List O} {k : Nat} {s : Sta} {x : O} (h : StTo l k s) (hr : Runs V.zero l) (hx : l[k]? = some x) : O.readyE s.v x = 0 := by
 have h1 := (List.getElem?_eq_some_iff.1 hx)
 have h2 : l.drop k = x :: l.drop (k + 1) := by rw [List.drop_eq_getElem_cons h1.1, h1.2]
 have e : l = l.take k ++ x :: l.drop (k + 1) := by rw [← h2, List.take_append_drop]
 have h3 : Runs Sta.zero.v (l.take k ++ x :: l.drop (k + 1)) := e ▸ hr
 have := (runs_split (s := Sta.zero) h3).2
 rw [h.st] at this
 exact this.1
theorem StTo.step {l : List O} {k : Nat} {s : Sta} {x : O} (h : StTo l k s) (hr : Runs V.zero l) (hx : l[k]? = some x) : StTo l (k + 1) (applyS s x) := by
 have e : l.take (k + 1) = l.take k ++ [x] := by rw [List.take_add_one, hx]; rfl
 exact ⟨by rw [e, stOf_app, h.st], by rw [e]; exact h.spec.step (h.ready hr hx)⟩
def AllP (l : List O) (w : World) (e : Ending) (w' : World) : Prop :=
 ∃ a n c b m d, e = .returned (.tuple #[.agg (sv (stOf Sta.zero l).v a n c b m d), .bool true]) ∧ SL w' (stOf Sta.zero l) a n b m ∧ Below w.heap.size w w'
structure AlW (w W : World) (pr ps : Nat) (z : V) (s : Sta) (a : Option Addr) (n c : Nat) (b : Option Addr) (m d : Nat) : Prop where
 kr : Blk W pr 39 (sv z none 0 0 none 0 0)
 ks : Blk W ps 39 (sv s.v a n c b m d)
 sl : SL W s a n b m
 old : Below w.heap.size w W
 far : (∀ ad, a = some ad → n ≠ 0 → ps < ad.block) ∧ ∀ ad, b = some ad → m ≠ 0 → ps < ad.block
theorem AlW.below {w W W' : World} {pr ps : Nat} {z : V} {s : Sta} {a : Option Addr} {n c : Nat} {b : Option Addr} {m d : Nat} (h : AlW w W pr ps z s a n c b m d) (hb : Below W.heap.size W W') : AlW w W' pr ps z s a n c b m d :=
 ⟨h.kr.below hb, h.ks.below hb, h.sl.below hb, h.old.trans (hb.mono h.old.size), h.far⟩
set_option maxRecDepth 100000 in
set_option maxHeartbeats 16000000 in
theorem all_any {a : Option Addr} {n cap : Nat} {l : List O} {w : World} (hl : OL w a n l) (hn : n ≤ 40) (hr : Runs V.zero l) : Calls Tryz.prog 30 #[.slice a n cap] w (AllP l w) := by
 have HL := Lib.hid hl
 have HLEN := Lib.hid hl.len'
 have HRUN := Lib.hid hr
 obtain ⟨z, hz⟩ : ∃ z, V.zero = z := ⟨_, rfl⟩
 have HZ := Lib.hid hz
 obtain ⟨zo, hzo⟩ : ∃ z, O.zero = z := ⟨_, rfl⟩
 have HZO := Lib.hid hzo
 obtain ⟨s0, hs0⟩ : ∃ s, Sta.zero = s := ⟨_, rfl⟩
 have HZV : Hid (s0.v = z) := Lib.hid (by rw [← hs0]; exact hz)
 have HS0 : Hid (StTo l 0 s0) := Lib.hid (hs0 ▸ StTo.start l)
 have HSE : Hid (s0.es = [] ∧ s0.ts = []) := Lib.hid (by rw [← hs0]; exact ⟨rfl, rfl⟩)
 clear hl hr hz hzo hs0
 go_enter Tryz.func30, Tryz.ntmps30
 go_upto_region 2 with (refine wpList_run rfl (exec_alloc39z HZ.out rfl) ?_)
 have HA0 : Hid (AlW w ((w.alloc (.cells (sv z none 0 0 none 0 0) 39)).alloc (.cells (sv z none 0 0 none 0 0) 39)) w.heap.size (w.heap.size + 1) z s0 none 0 0 none 0 0) := Lib.hid ⟨(Blk.new w 39 _).below (below_one _ _), by have h := Blk.new (w.alloc (.cells (sv z none 0 0 none 0 0) 39)) 39 (sv z none 0 0 none 0 0); rw [World.size_alloc] at h; rw [HZV.out]; exact h, ⟨by rw [HSE.out.1]; exact GL.nil _ _ _, by rw [HSE.out.2]; exact GL.nil _ _ _⟩, below_2 _ _ _, ⟨fun _ h => (by cases h), fun _ h => (by cases h)⟩⟩
 try simp only [World.size_alloc]
 generalize (w.alloc (.cells (sv z none 0 0 none 0 0) 39)).alloc (.cells (sv z none 0 0 none 0 0) 39) = w0 at HA0 ⊢
 obtain ⟨pr, hpr⟩ : ∃ p, w.heap.size = p := ⟨_, rfl⟩
 obtain ⟨ps, hps⟩ : ∃ p, pr + 1 = p := ⟨_, rfl⟩
 have HPS : Hid (w.heap.size = pr ∧ pr + 1 = ps) := Lib.hid ⟨hpr, hps⟩
 rw [hpr, hps] at HA0
 rw [hpr, hps]
 clear hpr hps
 go_wp2_with fail
 go_loopw [11] (fun iv W => ∃ (k : Nat) (s : Sta) (a1 : Option Addr) (n1 c1 : Nat) (b1 : Option Addr) (m1 d1 : Nat), k ≤ n ∧ iv = .int .i64 (k : Int) ∧ Hid (StTo l k s) ∧ Hid (AlW w W pr ps z s a1 n1 c1 b1 m1 d1)) (fun iv _ => n - (intOf iv).toNat)
 case atStart => exact ⟨0, s0, none, 0, 0, none, 0, 0, Nat.zero_le _, rfl, HS0, HA0⟩
 case round =>
  obtain ⟨k, s, a1, n1, c1, b1, m1, d1, hk, rfl, HST, HA⟩ := hrel
  clear HA0 HS0
  by_cases hlt : k < n
  ·obtain ⟨g, off, x, rfl, hx, hrw⟩ := OL.at (HL.out.below HA.out.old) hlt
   have HX := Lib.hid hx
   have HRW := Lib.hid hrw
   clear hx hrw
   have hn1 : n1 < 100 := by have h1 := HA.out.sl.es.len'; have h2 := HST.out.spec.len.1; rw [List.length_take] at h2; omega
   have hm1 : m1 < 200000 := by have h1 := HA.out.sl.ts.len'; have h2 := HST.out.spec.len.2; rw [List.length_take] at h2; omega
   go_wp2_with (first | (refine wpList_run rfl (exec_idxO (i := k) rfl rfl rfl rfl hlt) ?_) | (refine wpList_run rfl (exec_ldO (p := x) rfl rfl HRW.out) ?_) | (refine wpList_run rfl (exec_alloc33z HZO.out rfl) ?_) | (refine wpList_stop33 rfl ?_))
   refine ⟨?_⟩
   refine wpList_void rfl rfl (exec_store33 (p := zo) (u := x) rfl rfl rfl (Blk.new wr 33 zo.arr)) ?_
   have hbo := bo_laid wr 33 zo.arr x.arr
   have HA1 := Lib.hid (HA.out.below hbo.old)
   have HX1 := Lib.hid hbo.one
   clear hbo HA HRW
   generalize (wr.alloc (.cells zo.arr 33)).setRow wr.heap.size x.arr = w3 at HA1 HX1 ⊢
   generalize wr.heap.size = px at HX1 ⊢
   go_wp2_with (first | (refine wpList_run rfl (exec_load39 rfl rfl HA1.out.ks) ?_) | (refine wpList_run rfl (exec_load33 (p := x) rfl rfl HX1.out) ?_))
   refine (apply_any HA1.out.sl hn1 hm1 x).mono ?_
   have happ := appS_of HST.out.spec.right (HST.out.ready HRUN.out HX.out)
   rw [happ.1, happ.2]
   have HST2 := Lib.hid (HST.out.step HRUN.out HX.out)
   obtain ⟨t, ht⟩ : ∃ t, applyS s x = t := ⟨_, rfl⟩
   rw [ht] at HST2 ⊢
   clear ht happ
   rintro e w4 ⟨a2, n2, c2, b2, m2, d2, rfl, hE, hT, hb⟩
   have HFAR : Hid ((∀ ad, a2 = some ad → n2 ≠ 0 → ps < ad.block ∧ ad.block < w4.heap.size) ∧ ∀ ad, b2 = some ad → m2 ≠ 0 → ps < ad.block ∧ ad.block < w4.heap.size) := Lib.hid ⟨fun ad e _ => by have := (hE.lt ad e); have := HA1.out.ks.lt; omega, fun ad e _ => by have := (hT.lt ad e); have := HA1.out.ks.lt; omega⟩
   have HSL : Hid (SL w4 t a2 n2 b2 m2) := Lib.hid ⟨hE.gl, hT.gl⟩
   have HA2 := Lib.hid (HA1.out.below hb)
   clear hE hT hb HA1 HX1 hn1 hm1
   go_wp2_with (first | (refine wpList_run rfl (exec_alloc39z HZ.out rfl) ?_) | (refine wpList_stop39 rfl ?_))
   refine ⟨?_⟩
   refine wpList_void rfl rfl (exec_store39 rfl rfl rfl (Blk.new w4 39 _)) ?_
   have hbo := bo_laid w4 39 (sv z none 0 0 none 0 0) (sv t.v a2 n2 c2 b2 m2 d2)
   have HA3 := Lib.hid (HA2.out.below hbo.old)
   have HSL3 := Lib.hid (HSL.out.below hbo.old)
   have HT3 := Lib.hid hbo.one
   clear hbo HA2 HSL
   generalize (w4.alloc (.cells (sv z none 0 0 none 0 0) 39)).setRow w4.heap.size (sv t.v a2 n2 c2 b2 m2 d2) = w5 at HA3 HSL3 HT3 ⊢
   generalize w4.heap.size = pt at HT3 HFAR ⊢
   go_wp2_with (first | (refine wpList_run rfl (exec_load39 rfl rfl HT3.out) ?_) | (refine wpList_stop39 rfl ?_))
   refine ⟨?_⟩
   refine wpList_void rfl rfl (exec_store39 rfl rfl rfl HA3.out.ks) ?_
   have hk2 := Kept.setRow w5 ps (sv t.v a2 n2 c2 b2 m2 d2)
   have HA4 : Hid (AlW w (w5.setRow ps (sv t.v a2 n2 c2 b2 m2 d2)) pr ps z t a2 n2 c2 b2 m2 d2) := Lib.hid ⟨HA3.out.kr.kept hk2 (by have := HPS.out; omega), HA3.out.ks.row, ⟨HSL3.out.es.keep hk2 (fun ad e h => by have := (HFAR.out.1 ad e h).1; omega), HSL3.out.ts.keep hk2 (fun ad e h => by have := (HFAR.out.2 ad e h).1; omega)⟩, HA3.out.old.trans (hk2.below HA3.out.old.size (fun j e => by have := HPS.out; omega)), ⟨fun ad e h => (HFAR.out.1 ad e h).1, fun ad e h => (HFAR.out.2 ad e h).1⟩⟩
   clear hk2 HA3 HSL3 HT3
   generalize w5.setRow ps (sv t.v a2 n2 c2 b2 m2 d2) = w6 at HA4 ⊢
   go_wp2_with fail
   go_roundw
   case rel => exact ⟨k + 1, t, a2, n2, c2, b2, m2, d2, hlt, by go_num, HST2, HA4⟩
   case measure => simp [intOf]; omega
  ·have HE : Hid (stOf Sta.zero l = s) := Lib.hid (by have h := HST.out.st; rwa [List.take_of_length_le (by rw [HLEN.out]; omega)] at h)
   go_wp2_with (first | (refine wpList_run rfl (exec_load39 rfl rfl HA.out.ks) ?_) | (refine wpList_stop39 rfl ?_))
   refine ⟨?_⟩
   refine wpList_void rfl rfl (exec_store39 rfl rfl rfl HA.out.kr) ?_
   have hk2 := Kept.setRow wr pr (sv s.v a1 n1 c1 b1 m1 d1)
   have HR : Hid (Blk (wr.setRow pr (sv s.v a1 n1 c1 b1 m1 d1)) pr 39 (sv s.v a1 n1 c1 b1 m1 d1)) := Lib.hid HA.out.kr.row
   have HF : Hid (AllP l w (.returned (.tuple #[.agg (sv s.v a1 n1 c1 b1 m1 d1), .bool true])) (wr.setRow pr (sv s.v a1 n1 c1 b1 m1 d1))) := Lib.hid (by
    refine ⟨a1, n1, c1, b1, m1, d1, by rw [HE.out], ?_, HA.out.old.trans (hk2.below HA.out.old.size (fun j e => by have := HPS.out; omega))⟩
    rw [HE.out]
    exact ⟨HA.out.sl.es.keep hk2 (fun ad e h => by have := HA.out.far.1 ad e h; have := HPS.out; omega), HA.out.sl.ts.keep hk2 (fun ad e h => by have := HA.out.far.2 ad e h; have := HPS.out; omega)⟩)
   clear hk2
   generalize wr.setRow pr (sv s.v a1 n1 c1 b1 m1 d1) = w6 at HR HF ⊢
   go_wp2_with fail
   exact bodyPost_ret (v := .tuple #[.agg (sv s.v a1 n1 c1 b1 m1 d1), .bool true]) (ret39_two rfl rfl rfl HR.out) rfl HF.out
end Go.Proofs.YtnekpgmgnepdoaaGreat
end
section
namespace Go.Proofs.YtnekpgmgnepdoaaGreat
open Go.RowKit
theorem choose_ops {W : World} {x : Addr} : ∀ {n : Nat}, (∀ i, i < n → ∃ p : O, ∀ j u, p.cs[j]? = some u → W.cell? (x.add (i * 23 + j)) = some u) → ∃ l : List O, l.length = n ∧ ∀ i p, l[i]? = some p → ∀ j u, p.cs[j]? = some u → W.cell? (x.add (i * 23 + j)) = some u
 | 0, _ => ⟨[], rfl, fun i p h => by simp at h⟩
 | n + 1, h => by
  obtain ⟨l, hl, hp⟩ := choose_ops (n := n) fun i hi => h i (by omega)
  obtain ⟨p, hpp⟩ := h n (by omega)
  refine ⟨l ++ [p], by simp [hl], fun i q hq => ?_⟩
  by_cases hi : i < n
  ·rw [List.getElem?_append_left (by omega)] at hq
   exact hp i q hq
  ·have hlt := (List.getElem?_eq_some_iff.1 hq).1
   simp only [List.length_append, List.length_cons, List.length_nil] at hlt
   obtain rfl : i = n := by omega
   rw [List.getElem?_append_right (by omega), hl, Nat.sub_self] at hq
   obtain rfl := Option.some.inj hq
   exact hpp
theorem ops_of {H : Type} {enc : TypeId × Value → H} {W : World} {a : Option Addr} {len cap : Nat} {d : DataW H} {p : List MemPlace}
  (h : DataW.Trod enc Tryz.prog W 0 (fun _ => true) true 63 (.slice a len cap) d p) : len ≤ maxLen ∧ ∃ l, OL W a len l := by
 obtain ⟨fuel, hf⟩ := h
 rcases Go.Deep.open_slice Tryz.underlying63 hf with ⟨hcs, _⟩ | ⟨x, l, c, m, n, D, Pl, hcs, _, hl, hm, hmm, _, hi⟩
 ·simp [Value.cells] at hcs
  obtain ⟨rfl, rfl, rfl⟩ := hcs
  exact ⟨Nat.zero_le _, [], rfl, .inl rfl⟩
 ·simp [Value.cells] at hcs
  obtain ⟨rfl, rfl, rfl⟩ := hcs
  simp at hmm
  have hall : ∀ i, i < len → ∃ q : O, ∀ j u, q.cs[j]? = some u → W.cell? (x.add (i * 23 + j)) = some u := by
   intro i hil
   obtain ⟨cs', hc, ht⟩ := hi i (by omega)
   rw [cells33'] at hc
   obtain ⟨_, hcl, hat⟩ := World.cells?_some hc
   obtain ⟨q, rfl⟩ := op_cells (by simpa using hcl) ht
   refine ⟨q, fun j u hu => ?_⟩
   have hj : j < 23 := by rw [← q.cs_len]; exact (List.getElem?_eq_some_iff.1 hu).1
   have := hat j hj
   rw [Go.Deep.add_add] at this
   rw [this]
   simpa using hu
  obtain ⟨xs, hxl, hxs⟩ := choose_ops hall
  refine ⟨by omega, xs, by simp [cellsO, hxl], ?_⟩
  by_cases h0 : len = 0
  ·exact .inl h0
  ·obtain ⟨b, off, spot⟩ := x
   have hspot : spot = none := by
    have hl0 : 0 < xs.length := by omega
    have := hxs 0 _ (List.getElem?_eq_getElem hl0) 0 _ rfl
    simpa [Addr.add] using World.cell?_spot this
   subst hspot
   refine .inr ⟨b, off, rfl, fun i v hv j u hu => ?_⟩
   obtain ⟨q, hq, rfl⟩ : ∃ q, xs[i]? = some q ∧ q.cs = v := by simpa [cellsO] using hv
   have := hxs i q hq j u hu
   rw [Addr.add_mid, ← Nat.add_assoc] at this
   exact this
theorem ops_cap {H : Type} {enc : TypeId × Value → H} {W : World} {a : Option Addr} {len cap : Nat} {d : DataW H} {p : List MemPlace}
  (h : DataW.Trod enc Tryz.prog W 0 (fun _ => true) true 63 (.slice a len cap) d p) : len ≤ cap := by
 obtain ⟨fuel, hf⟩ := h
 rcases Go.Deep.open_slice Tryz.underlying63 hf with ⟨hcs, _⟩ | ⟨x, l, c, m, n, D, Pl, hcs, _, hl, hm, hmm, _, hi⟩
 ·simp [Value.cells] at hcs
  obtain ⟨rfl, rfl, rfl⟩ := hcs
  exact Nat.le_refl _
 ·simp [Value.cells] at hcs
  obtain ⟨rfl, rfl, rfl⟩ := hcs
  exact hl
end Go.Proofs.YtnekpgmgnepdoaaGreat
end
section
namespace Go.Proofs.YtnekpgmgnepdoaaGreat
open Go.RowKit Fold
theorem hasB_join (a b : V) (r s : Nat) : V.hasB (V.join a b) r s = true ↔ V.hasB a r s = true ∨ V.hasB b r s = true := by
 rw [hasB_iff, hasB_iff, hasB_iff]
 by_cases hr : r < 16
 ·rw [V.join_at _ _ hr]; omega
 ·omega
structure Part (l X : List O) : Prop where
 runs : Runs V.zero X
 own : Own X
 spec : Spec (stOf Sta.zero X) X
 sub : ∀ o ∈ X, o ∈ l
 few : X.length ≤ 40
theorem part_of {l : List O} (h : Hist l) {v : V} (hc : Closed (under l v)) : Part l (under l v) := by
 have hm : ∀ o, o ∈ under l v ↔ o ∈ l ∧ V.hasB v o.r o.s = true := fun o => by unfold under; rw [List.mem_filter]
 have hr : Runs V.zero (under l v) := runs_sub (P := []) h.runs Kn.zero (by simpa using Kn.zero) (by rw [List.nil_append]; exact h.closed.unlike) (fun o ho hp r s hh => by
  obtain ⟨q, hq, hd⟩ := hc.known o ((hm o).2 ⟨ho, hp⟩) r s hh
  exact ⟨q, by simpa using ((hm q).1 hq).1, ((hm q).1 hq).2, hd⟩)
 exact ⟨hr, hc.known, spec_of hr, fun o ho => ((hm o).1 ho).1, Nat.le_trans (List.length_filter_le _ _) h.few⟩
theorem closed_join {l : List O} (h : Hist l) {a b : V} (hx : Closed (under l a)) (hy : Closed (under l b)) : Closed (under l (V.join a b)) ∧ ∀ o, o ∈ under l (V.join a b) ↔ o ∈ under l a ∨ o ∈ under l b := by
 have hm : ∀ v o, o ∈ under l v ↔ o ∈ l ∧ V.hasB v o.r o.s = true := fun v o => by unfold under; rw [List.mem_filter]
 have hu : ∀ o, o ∈ under l (V.join a b) ↔ o ∈ under l a ∨ o ∈ under l b := fun o => by
  rw [hm, hm, hm, hasB_join]
  constructor
  ·rintro ⟨h1, h2 | h2⟩
   ·exact .inl ⟨h1, h2⟩
   ·exact .inr ⟨h1, h2⟩
  ·rintro (⟨h1, h2⟩ | ⟨h1, h2⟩)
   ·exact ⟨h1, .inl h2⟩
   ·exact ⟨h1, .inr h2⟩
 refine ⟨⟨fun o ho => h.closed.valid o ((hm _ o).1 ho).1, h.closed.unlike.sublist List.filter_sublist, fun o ho r s hh => ?_⟩, hu⟩
 rcases (hu o).1 ho with h1 | h1
 ·obtain ⟨q, hq, hd⟩ := hx.known o h1 r s hh
  exact ⟨q, (hu q).2 (.inl hq), hd⟩
 ·obtain ⟨q, hq, hd⟩ := hy.known o h1 r s hh
  exact ⟨q, (hu q).2 (.inr hq), hd⟩
theorem mgA_part {l X Y Z : List O} (h : Hist l) (hx : Part l X) (hy : Part l Y) (hz : Part l Z) (hm : ∀ o, o ∈ Z ↔ o ∈ X ∨ o ∈ Y) {er : Nat} {m : Sta} (k : MgA (stOf Sta.zero X) (stOf Sta.zero Y) er m) : er = 0 ∧ m = stOf Sta.zero Z := by
 obtain ⟨h1, h2⟩ := merg_spec hx.spec hy.spec hz.spec h.closed.unlike hx.sub hy.sub hm hx.own hy.own
 exact MgA.unique k (.ok hx.spec.right hy.spec.right h1 h2)
theorem own_cap {w : World} {B n cap : Nat} {a : Option Addr} {l : List O} (h : OwnO w B a n cap l) : n ≤ cap := by
 rcases h.row.2 with ⟨h1, h2⟩ | ⟨g, c, cur, h1, _, _, h2, _⟩
 ·omega
 ·cases h1; exact h2
structure JvW (w W : World) (p4 p5 : Nat) (av bv : V) : Prop where
 k4 : Blk W p4 24 av.arr
 k5 : Blk W p5 24 bv.arr
 old : Below w.heap.size w W
theorem JvW.below {w W W' : World} {p4 p5 : Nat} {av bv : V} (h : JvW w W p4 p5 av bv) (hb : Below W.heap.size W W') : JvW w W' p4 p5 av bv := ⟨h.k4.below hb, h.k5.below hb, h.old.trans (hb.mono h.old.size)⟩
theorem JvW.drew {w W : World} {p4 p5 : Nat} {av bv : V} (h : JvW w W p4 p5 av bv) : JvW w W.drew p4 p5 av bv := ⟨h.k4, h.k5, h.old.drew⟩
structure JsW (W : World) (p : Nat) (s : Sta) (a : Option Addr) (n c : Nat) (b : Option Addr) (m d : Nat) : Prop where
 k : Blk W p 39 (sv s.v a n c b m d)
 sl : SL W s a n b m
theorem JsW.below {W W' : World} {p : Nat} {s : Sta} {a : Option Addr} {n c : Nat} {b : Option Addr} {m d : Nat} (h : JsW W p s a n c b m d) (hb : Below W.heap.size W W') : JsW W' p s a n c b m d := ⟨h.k.below hb, h.sl.below hb⟩
structure JzW (w W : World) (pm pz : Nat) (u : Sta) (a4 : Option Addr) (n4 c4 : Nat) (b4 : Option Addr) (m4 d4 : Nat) (a3 : Option Addr) (n3 c3 : Nat) (b3 : Option Addr) (m3 d3 : Nat) : Prop where
 km : Blk W pm 39 (sv u.v a4 n4 c4 b4 m4 d4)
 kz : Blk W pz 39 (sv u.v a3 n3 c3 b3 m3 d3)
 lm : SL W u a4 n4 b4 m4
 lz : SL W u a3 n3 b3 m3
 old : Below w.heap.size w W
theorem JzW.below {w W W' : World} {pm pz : Nat} {u : Sta} {a4 : Option Addr} {n4 c4 : Nat} {b4 : Option Addr} {m4 d4 : Nat} {a3 : Option Addr} {n3 c3 : Nat} {b3 : Option Addr} {m3 d3 : Nat} (h : JzW w W pm pz u a4 n4 c4 b4 m4 d4 a3 n3 c3 b3 m3 d3) (hb : Below W.heap.size W W') : JzW w W' pm pz u a4 n4 c4 b4 m4 d4 a3 n3 c3 b3 m3 d3 := ⟨h.km.below hb, h.kz.below hb, h.lm.below hb, h.lz.below hb, h.old.trans (hb.mono h.old.size)⟩
theorem JzW.drew {w W : World} {pm pz : Nat} {u : Sta} {a4 : Option Addr} {n4 c4 : Nat} {b4 : Option Addr} {m4 d4 : Nat} {a3 : Option Addr} {n3 c3 : Nat} {b3 : Option Addr} {m3 d3 : Nat} (h : JzW w W pm pz u a4 n4 c4 b4 m4 d4 a3 n3 c3 b3 m3 d3) : JzW w W.drew pm pz u a4 n4 c4 b4 m4 d4 a3 n3 c3 b3 m3 d3 := ⟨h.km, h.kz, h.lm.below (drew_below _), h.lz.below (drew_below _), h.old.drew⟩
theorem sl_few {l X : List O} (h : Part l X) {W : World} {a : Option Addr} {n : Nat} {b : Option Addr} {m : Nat} (k : SL W (stOf Sta.zero X) a n b m) : n ≤ 40 ∧ m ≤ 40 := by
 have h1 := k.es.len'
 have h2 := k.ts.len'
 have h3 := h.spec.len
 have h4 := h.few
 omega
set_option maxRecDepth 100000 in
set_option maxHeartbeats 32000000 in
theorem joins_walk {a : Option Addr} {n cap : Nat} {l : List O} {w : World} (halive : ∀ W, Calls Tryz.prog 12 #[] W (Says (.bool true) W)) (hl : OL w a n l) (hn : n < 9223372036854775808) (hcap : n ≤ cap) (av bv : V) : Calls Tryz.prog 7 #[.slice a n cap, .agg av.arr, .agg bv.arr] w (Says (.bool true) w) := by
 have HL := Lib.hid hl
 have HLEN := Lib.hid hl.len'
 have HAL := Lib.hid halive
 obtain ⟨z, hz⟩ : ∃ z, V.zero = z := ⟨_, rfl⟩
 have HZ := Lib.hid hz
 have hb1 := fun (v : V) w => box24 v w
 have H0 : Hid (JvW w ((w.alloc (.cells av.arr 24)).alloc (.cells bv.arr 24)) w.heap.size (w.heap.size + 1) av bv) := Lib.hid ⟨(Blk.new w 24 _).below (below_one _ _), by have := Blk.new (w.alloc (.cells av.arr 24)) 24 bv.arr; simpa using this, below_2 _ _ _⟩
 clear hl halive hz
 go_enter Tryz.func7, Tryz.ntmps7
 go_upto_region 1 with fail
 clear hb1
 try simp only [World.size_alloc]
 generalize (w.alloc (.cells av.arr 24)).alloc (.cells bv.arr 24) = w0 at H0 ⊢
 obtain ⟨p4, hp4⟩ : ∃ p, w.heap.size = p := ⟨_, rfl⟩
 obtain ⟨p5, hp5⟩ : ∃ p, p4 + 1 = p := ⟨_, rfl⟩
 rw [hp4, hp5] at H0
 rw [hp4, hp5]
 clear hp4 hp5
 go_wp2_with fail
 refine (HAL.out _).mono ?_
 rintro e w1 ⟨rfl, hb⟩
 have H1 := Lib.hid (H0.out.below hb)
 clear hb H0
 go_wp2_with fail
 refine (hist_any (HL.out.below H1.out.old) hn hcap).mono ?_
 rintro e w2 ⟨hi, rfl, hhi, hb⟩
 have H2 := Lib.hid (H1.out.below hb)
 clear hb H1
 cases hi
 ·clear hhi
  go_wp2_with fail
  go_ret
  exact ⟨rfl, H2.out.old⟩
 have HH := Lib.hid (hhi.1 rfl)
 clear hhi hn
 have hn : n ≤ 40 := by have := HH.out.few; have := HLEN.out; omega
 go_wp2_with fail
 refine wp_region_held_drew (S := fun w' => JvW w w' p4 p5 av bv) (by kernel_rfl) H2.out.drew (fun hS => ?_)
 refine held_tk 0 22 (.slice a n cap) rfl rfl (by kernel_rfl) (fun _ _ _ h => h) (fun _ _ => rfl) hS ?_
 simp only [Act.put, ap1, ap2, ap3]
 refine held_tk 1 23 (.agg av.arr) rfl rfl (by kernel_rfl) (fun _ _ _ h => h) (fun _ h => exec_load24 (v := av) rfl rfl h.k4) hS ?_
 simp only [Act.put, ap1, ap2, ap3]
 refine held_tk 3 25 (.slice a n cap) rfl rfl (by kernel_rfl) (fun _ _ _ h => h) (fun _ _ => rfl) hS ?_
 simp only [Act.put, ap1, ap2, ap3]
 refine held_tk 4 26 (.agg bv.arr) rfl rfl (by kernel_rfl) (fun _ _ _ h => h) (fun _ h => exec_load24 (v := bv) rfl rfl h.k5) hS ?_
 simp only [Act.put, ap1, ap2, ap3]
 refine held_callP 2 24 37 #[.slice a n cap, .agg av.arr] rfl (by kernel_rfl) rfl (by kernel_rfl) (by kernel_rfl) (runder_any (HL.out.below hS.old) (by omega) av) (fun e v1 hP => ?_)
 obtain ⟨ax, cx, rfl, hox, hb⟩ := hP
 refine ⟨_, rfl, hS.below hb, fun hS => ?_⟩
 simp only [Act.put, ap1, ap2, ap3]
 refine held_callP 5 27 37 #[.slice a n cap, .agg bv.arr] rfl (by kernel_rfl) rfl (by kernel_rfl) (by kernel_rfl) (runder_any (HL.out.below hS.old) (by omega) bv) (fun e v2 hP => ?_)
 obtain ⟨ay, cy, rfl, hoy, hb⟩ := hP
 refine ⟨_, rfl, hS.below hb, fun hS => ?_⟩
 simp only [Act.put, ap1, ap2, ap3]
 have hox := hox.below hb
 refine held_tk 6 7 (.slice ax (under l av).length cx) rfl rfl (by kernel_rfl) (fun _ _ _ h => h) (fun _ _ => rfl) hS ?_
 simp only [Act.put, ap1, ap2, ap3]
 refine held_tk 7 8 (.slice ay (under l bv).length cy) rfl rfl (by kernel_rfl) (fun _ _ _ h => h) (fun _ _ => rfl) hS ?_
 simp only [Act.put, ap1, ap2, ap3]
 have HX := Lib.hid hox.gl
 have HXC := Lib.hid (own_cap hox)
 have HY := Lib.hid hoy.gl
 have HYC := Lib.hid (own_cap hoy)
 have H3 := Lib.hid hS
 clear hS hox hoy
 refine wpAnyH_done (by kernel_rfl) ?_ _
 clear H2
 have HXF : Hid ((under l av).length ≤ 40) := Lib.hid (Nat.le_trans (List.length_filter_le _ _) HH.out.few)
 have HYF : Hid ((under l bv).length ≤ 40) := Lib.hid (Nat.le_trans (List.length_filter_le _ _) HH.out.few)
 go_wp2_with fail
 refine (refclosed_any HX.out (by have := HXF.out; omega) HXC.out).mono ?_
 rintro e w3 ⟨bx, rfl, hbx, hb⟩
 have H4 := Lib.hid (H3.out.below hb)
 have HX4 := Lib.hid (HX.out.below hb)
 have HY4 := Lib.hid (HY.out.below hb)
 clear hb H3 HX HY
 cases bx
 ·clear hbx
  go_wp2_with fail
  go_ret
  exact ⟨rfl, H4.out.old⟩
 have HCX := Lib.hid (hbx.1 rfl)
 clear hbx
 go_wp2_with fail
 refine (refclosed_any HY4.out (by have := HYF.out; omega) HYC.out).mono ?_
 rintro e w4 ⟨by_, rfl, hby, hb⟩
 have H5 := Lib.hid (H4.out.below hb)
 have HX5 := Lib.hid (HX4.out.below hb)
 have HY5 := Lib.hid (HY4.out.below hb)
 clear hb H4 HX4 HY4
 cases by_
 ·clear hby
  go_wp2_with fail
  go_ret
  exact ⟨rfl, H5.out.old⟩
 have HCY := Lib.hid (hby.1 rfl)
 clear hby
 have HPX := Lib.hid (part_of HH.out HCX.out)
 have HPY := Lib.hid (part_of HH.out HCY.out)
 obtain ⟨hcz, hmz⟩ := closed_join HH.out HCX.out HCY.out
 have HPZ := Lib.hid (part_of HH.out hcz)
 have HMG : Hid (∀ er m, MgA (stOf Sta.zero (under l av)) (stOf Sta.zero (under l bv)) er m → er = 0 ∧ m = stOf Sta.zero (under l (V.join av bv))) := Lib.hid (fun er m k => mgA_part HH.out HPX.out HPY.out HPZ.out hmz k)
 have HFX : Hid (∀ W a n b m, SL W (stOf Sta.zero (under l av)) a n b m → n ≤ 40 ∧ m ≤ 40) := Lib.hid (fun W a n b m k => sl_few HPX.out k)
 have HFY : Hid (∀ W a n b m, SL W (stOf Sta.zero (under l bv)) a n b m → n ≤ 40 ∧ m ≤ 40) := Lib.hid (fun W a n b m k => sl_few HPY.out k)
 have HFZ : Hid (∀ W a n b m, SL W (stOf Sta.zero (under l (V.join av bv))) a n b m → n ≤ 40 ∧ m ≤ 40) := Lib.hid (fun W a n b m k => sl_few HPZ.out k)
 have HAX := fun W (h : OL W ax (under l av).length (under l av)) => all_any (cap := cx) h HXF.out HPX.out.runs
 have HAY := fun W (h : OL W ay (under l bv).length (under l bv)) => all_any (cap := cy) h HYF.out HPY.out.runs
 have HAZ := fun W a2 c2 (h : OL W a2 (under l (V.join av bv)).length (under l (V.join av bv))) => all_any (cap := c2) h HPZ.out.few HPZ.out.runs
 unfold AllP at HAX HAY HAZ
 generalize stOf Sta.zero (under l av) = s at HMG HFX HAX
 generalize stOf Sta.zero (under l bv) = t at HMG HFY HAY
 generalize stOf Sta.zero (under l (V.join av bv)) = u at HMG HFZ HAZ
 have HAX := Lib.hid HAX
 have HAY := Lib.hid HAY
 have HAZ := Lib.hid HAZ
 have HJN : Hid (∀ W, Calls Tryz.prog 39 #[.agg av.arr, .agg bv.arr] W (Gives (V.join av bv) W)) := Lib.hid (fun W => rjoin_any av bv W)
 have HUN : Hid (∀ W, OL W a n l → Calls Tryz.prog 37 #[.slice a n cap, .agg (V.join av bv).arr] W (OpsP (under l (V.join av bv)) W)) := Lib.hid (fun W h => runder_any h (by omega) (V.join av bv))
 generalize V.join av bv = jv at HJN HUN HAZ HPZ hcz hmz
 clear hcz hmz
 go_wp2_with fail
 refine (HAX.out _ HX5.out).mono ?_
 rintro e w5 ⟨a1, n1, c1, b1, m1, d1, rfl, hsl, hb⟩
 have H6 := Lib.hid (H5.out.below hb)
 have HY6 := Lib.hid (HY5.out.below hb)
 have HS6 := Lib.hid hsl
 have hf1 := HFX.out _ _ _ _ _ hsl
 clear hb hsl H5 HX5 HY5
 go_wp2_with (first | (refine wpList_run rfl (exec_alloc39z HZ.out rfl) ?_) | (refine wpList_stop39 rfl ?_))
 refine ⟨?_⟩
 refine wpList_void rfl rfl (exec_store39 rfl rfl rfl (Blk.new w5 39 _)) ?_
 have hbo := bo_laid w5 39 (sv z none 0 0 none 0 0) (sv s.v a1 n1 c1 b1 m1 d1)
 have H7 := Lib.hid (H6.out.below hbo.old)
 have HY7 := Lib.hid (HY6.out.below hbo.old)
 have HS7 : Hid (JsW ((w5.alloc (.cells (sv z none 0 0 none 0 0) 39)).setRow w5.heap.size (sv s.v a1 n1 c1 b1 m1 d1)) w5.heap.size s a1 n1 c1 b1 m1 d1) := Lib.hid ⟨hbo.one, HS6.out.below hbo.old⟩
 clear hbo H6 HY6 HS6
 generalize (w5.alloc (.cells (sv z none 0 0 none 0 0) 39)).setRow w5.heap.size (sv s.v a1 n1 c1 b1 m1 d1) = w6 at H7 HY7 HS7 ⊢
 generalize w5.heap.size = p9 at HS7 ⊢
 go_wp2_with fail
 refine (HAY.out _ HY7.out).mono ?_
 rintro e w7 ⟨a2, n2, c2, b2, m2, d2, rfl, hsl, hb⟩
 have H8 := Lib.hid (H7.out.below hb)
 have HS8 := Lib.hid (HS7.out.below hb)
 have HT8 := Lib.hid hsl
 have hf2 := HFY.out _ _ _ _ _ hsl
 clear hb hsl H7 HS7 HY7
 go_wp2_with (first | (refine wpList_run rfl (exec_alloc39z HZ.out rfl) ?_) | (refine wpList_stop39 rfl ?_))
 refine ⟨?_⟩
 refine wpList_void rfl rfl (exec_store39 rfl rfl rfl (Blk.new w7 39 _)) ?_
 have hbo := bo_laid w7 39 (sv z none 0 0 none 0 0) (sv t.v a2 n2 c2 b2 m2 d2)
 have H9 := Lib.hid (H8.out.below hbo.old)
 have HS9 := Lib.hid (HS8.out.below hbo.old)
 have HT9 : Hid (JsW ((w7.alloc (.cells (sv z none 0 0 none 0 0) 39)).setRow w7.heap.size (sv t.v a2 n2 c2 b2 m2 d2)) w7.heap.size t a2 n2 c2 b2 m2 d2) := Lib.hid ⟨hbo.one, HT8.out.below hbo.old⟩
 clear hbo H8 HS8 HT8
 generalize (w7.alloc (.cells (sv z none 0 0 none 0 0) 39)).setRow w7.heap.size (sv t.v a2 n2 c2 b2 m2 d2) = w8 at H9 HS9 HT9 ⊢
 generalize w7.heap.size = p11 at HT9 ⊢
 go_wp2_with (first | (refine wpList_run rfl (exec_load24 (v := av) rfl rfl H9.out.k4) ?_) | (refine wpList_run rfl (exec_load24 (v := bv) rfl rfl H9.out.k5) ?_))
 refine (HJN.out _).mono ?_
 rintro e w9 ⟨rfl, hb⟩
 have H10 := Lib.hid (H9.out.below hb)
 have HS10 := Lib.hid (HS9.out.below hb)
 have HT10 := Lib.hid (HT9.out.below hb)
 clear hb H9 HS9 HT9
 go_wp2_with fail
 refine (HUN.out _ (HL.out.below H10.out.old)).mono ?_
 rintro e w10 ⟨az, cz, rfl, hoz, hb⟩
 have H11 := Lib.hid (H10.out.below hb)
 have HS11 := Lib.hid (HS10.out.below hb)
 have HT11 := Lib.hid (HT10.out.below hb)
 have HGZ := Lib.hid hoz.gl
 clear hb hoz H10 HS10 HT10
 go_wp2_with fail
 refine (HAZ.out _ _ _ HGZ.out).mono ?_
 rintro e w11 ⟨a3, n3, c3, b3, m3, d3, rfl, hsl, hb⟩
 have H12 := Lib.hid (H11.out.below hb)
 have HS12 := Lib.hid (HS11.out.below hb)
 have HT12 := Lib.hid (HT11.out.below hb)
 have HU12 := Lib.hid hsl
 have hf3 := HFZ.out _ _ _ _ _ hsl
 clear hb hsl H11 HS11 HT11 HGZ
 go_wp2_with (first | (refine wpList_run rfl (exec_alloc39z HZ.out rfl) ?_) | (refine wpList_stop39 rfl ?_))
 refine ⟨?_⟩
 refine wpList_void rfl rfl (exec_store39 rfl rfl rfl (Blk.new w11 39 _)) ?_
 have hbo := bo_laid w11 39 (sv z none 0 0 none 0 0) (sv u.v a3 n3 c3 b3 m3 d3)
 have H13 := Lib.hid (H12.out.below hbo.old)
 have HS13 := Lib.hid (HS12.out.below hbo.old)
 have HT13 := Lib.hid (HT12.out.below hbo.old)
 have HU13 : Hid (JsW ((w11.alloc (.cells (sv z none 0 0 none 0 0) 39)).setRow w11.heap.size (sv u.v a3 n3 c3 b3 m3 d3)) w11.heap.size u a3 n3 c3 b3 m3 d3) := Lib.hid ⟨hbo.one, HU12.out.below hbo.old⟩
 clear hbo H12 HS12 HT12 HU12
 generalize (w11.alloc (.cells (sv z none 0 0 none 0 0) 39)).setRow w11.heap.size (sv u.v a3 n3 c3 b3 m3 d3) = w12 at H13 HS13 HT13 HU13 ⊢
 generalize w11.heap.size = p13 at HU13 ⊢
 go_wp2_with (first | (refine wpList_run rfl (exec_load39 rfl rfl HS13.out.k) ?_) | (refine wpList_run rfl (exec_load39 rfl rfl HT13.out.k) ?_))
 refine (merge_any HS13.out.sl HT13.out.sl (by omega) (by omega) (by omega) (by omega)).mono ?_
 rintro e w13 ⟨er, mm, hM, a4, n4, c4, b4, m4, d4, rfl, hE, hT, hb⟩
 obtain ⟨rfl, rfl⟩ := HMG.out _ _ hM
 have H14 := Lib.hid (H13.out.below hb)
 have HU14 := Lib.hid (HU13.out.below hb)
 have HM14 : Hid (SL w13 mm a4 n4 b4 m4) := Lib.hid ⟨hE.gl, hT.gl⟩
 have hf4 := HFZ.out _ _ _ _ _ HM14.out
 clear hb hE hT hM H13 HS13 HT13 HU13
 go_wp2_with (first | (refine wpList_run rfl (exec_alloc39z HZ.out rfl) ?_) | (refine wpList_stop39 rfl ?_))
 refine ⟨?_⟩
 refine wpList_void rfl rfl (exec_store39 rfl rfl rfl (Blk.new w13 39 _)) ?_
 have hbo := bo_laid w13 39 (sv z none 0 0 none 0 0) (sv mm.v a4 n4 c4 b4 m4 d4)
 have H15 : Hid (JzW w ((w13.alloc (.cells (sv z none 0 0 none 0 0) 39)).setRow w13.heap.size (sv mm.v a4 n4 c4 b4 m4 d4)) w13.heap.size p13 mm a4 n4 c4 b4 m4 d4 a3 n3 c3 b3 m3 d3) := Lib.hid ⟨hbo.one, HU14.out.k.below hbo.old, HM14.out.below hbo.old, HU14.out.sl.below hbo.old, H14.out.old.trans (hbo.old.mono H14.out.old.size)⟩
 clear hbo H14 HU14 HM14
 generalize (w13.alloc (.cells (sv z none 0 0 none 0 0) 39)).setRow w13.heap.size (sv mm.v a4 n4 c4 b4 m4 d4) = w14 at H15 ⊢
 generalize w13.heap.size = p15 at H15 ⊢
 go_wp2_with fail
 refine wp_region_held_drew (S := fun w' => JzW w w' p15 p13 mm a4 n4 c4 b4 m4 d4 a3 n3 c3 b3 m3 d3) (by kernel_rfl) H15.out.drew (fun hS => ?_)
 refine held_tk 0 61 (.bool true) rfl rfl (by kernel_rfl) (fun _ _ _ h => h) (fun _ _ => rfl) hS ?_
 simp only [Act.put, ap1, ap2, ap3]
 refine held_tk 1 62 (.bool true) rfl rfl (by kernel_rfl) (fun _ _ _ h => h) (fun _ _ => rfl) hS ?_
 simp only [Act.put, ap1, ap2, ap3]
 refine held_tk 2 63 (.bool true) rfl rfl (by kernel_rfl) (fun _ _ _ h => h) (fun _ _ => rfl) hS ?_
 simp only [Act.put, ap1, ap2, ap3]
 refine held_tk 3 64 (.bool true) rfl rfl (by kernel_rfl) (fun _ _ _ h => h) (fun _ _ => rfl) hS ?_
 simp only [Act.put, ap1, ap2, ap3]
 refine held_tk 4 65 (.bool true) rfl rfl (by kernel_rfl) (fun _ _ _ h => h) (fun _ _ => rfl) hS ?_
 simp only [Act.put, ap1, ap2, ap3]
 refine held_tk 5 66 (.bool true) rfl rfl (by kernel_rfl) (fun _ _ _ h => h) (fun _ _ => rfl) hS ?_
 simp only [Act.put, ap1, ap2, ap3]
 refine held_tk 6 67 (.bool true) rfl rfl (by kernel_rfl) (fun _ _ _ h => h) (fun _ _ => rfl) hS ?_
 simp only [Act.put, ap1, ap2, ap3]
 refine held_tk 7 68 (.bool true) rfl rfl (by kernel_rfl) (fun _ _ _ h => h) (fun _ _ => rfl) hS ?_
 simp only [Act.put, ap1, ap2, ap3]
 refine held_tk 8 69 (.int .i64 0) rfl rfl (by kernel_rfl) (fun _ _ _ h => h) (fun _ _ => rfl) hS ?_
 simp only [Act.put, ap1, ap2, ap3]
 refine held_tk 9 70 (.bool true) rfl rfl (by kernel_rfl) (fun _ _ _ h => h) (fun _ _ => exec_eqlI trivial rfl rfl rfl (by simp)) hS ?_
 simp only [Act.put, ap1, ap2, ap3]
 refine held_tk 10 71 (.bool true) rfl rfl (by kernel_rfl) (fun _ _ _ h => h) (fun _ _ => rfl) hS ?_
 simp only [Act.put, ap1, ap2, ap3]
 refine held_tk 11 72 (.bool true) rfl rfl (by kernel_rfl) (fun _ _ _ h => h) (fun _ _ => rfl) hS ?_
 simp only [Act.put, ap1, ap2, ap3]
 refine held_tk 12 73 (.agg (sv mm.v a4 n4 c4 b4 m4 d4)) rfl rfl (by kernel_rfl) (fun _ _ _ h => h) (fun _ h => exec_load39 rfl rfl h.km) hS ?_
 simp only [Act.put, ap1, ap2, ap3]
 refine held_tk 14 75 (.agg (sv mm.v a3 n3 c3 b3 m3 d3)) rfl rfl (by kernel_rfl) (fun _ _ _ h => h) (fun _ h => exec_load39 rfl rfl h.kz) hS ?_
 simp only [Act.put, ap1, ap2, ap3]
 refine held_callP 13 74 20 #[.agg (sv mm.v a4 n4 c4 b4 m4 d4)] rfl (by kernel_rfl) rfl (by kernel_rfl) (by kernel_rfl) (ours_any hS.lm (by omega) (by omega)) (fun e v3 hP => ?_)
 obtain ⟨ao, co, bo, do2, rfl, hlo, hb⟩ := hP
 refine ⟨_, rfl, hS.below hb, fun hS => ?_⟩
 simp only [Act.put, ap1, ap2, ap3]
 refine held_callP 15 76 20 #[.agg (sv mm.v a3 n3 c3 b3 m3 d3)] rfl (by kernel_rfl) rfl (by kernel_rfl) (by kernel_rfl) (ours_any hS.lz (by omega) (by omega)) (fun e v4 hP => ?_)
 obtain ⟨ap, cp, bp, dp2, rfl, hlp, hb⟩ := hP
 refine ⟨_, rfl, hS.below hb, fun hS => ?_⟩
 simp only [Act.put, ap1, ap2, ap3]
 have hlo := hlo.below hb
 refine held_callP 16 77 19 #[.agg (sv mm.v ao n4 co bo m4 do2), .agg (sv mm.v ap n3 cp bp m3 dp2)] rfl (by kernel_rfl) rfl (by kernel_rfl) (by kernel_rfl) (same_any hlo hlp (by omega) (by omega)) (fun e v5 hP => ?_)
 obtain ⟨r, rfl, hr, hb⟩ := hP
 obtain rfl : r = true := hr.2 ⟨rfl, rfl, rfl⟩
 refine ⟨_, rfl, hS.below hb, fun hS => ?_⟩
 simp only [Act.put, ap1, ap2, ap3]
 refine held_tk 17 78 (.bool true) rfl rfl (by kernel_rfl) (fun _ _ _ h => h) (fun _ _ => rfl) hS ?_
 simp only [Act.put, ap1, ap2, ap3]
 refine held_tk 18 6 (.bool true) rfl rfl (by kernel_rfl) (fun _ _ _ h => h) (fun _ _ => rfl) hS ?_
 simp only [Act.put, ap1, ap2, ap3]
 have HS9 := Lib.hid hS
 clear hS
 refine wpAnyH_done (by kernel_rfl) ?_ _
 go_wp2_with fail
 go_ret
 exact ⟨rfl, HS9.out.old⟩
end Go.Proofs.YtnekpgmgnepdoaaGreat
end
