import Derived.Test.YtnekpgmgnepdoaaGreatZbm
section
namespace Go.Proofs.YtnekpgmgnepdoaaGreat
open Go.RowKit
def AllPF (l : List O) (w : World) (e : Ending) (w' : World) : Prop :=
 ∃ a n c b m d, e = .returned (.tuple #[.agg (sv (stOf Sta.zero l).v a n c b m d), .bool true]) ∧ SL w' (stOf Sta.zero l) a n b m ∧ Below w.heap.size w w' ∧ ((∀ ad, a = some ad → n ≠ 0 → w.heap.size ≤ ad.block) ∧ ∀ ad, b = some ad → m ≠ 0 → w.heap.size ≤ ad.block)
set_option maxRecDepth 100000 in
set_option maxHeartbeats 16000000 in
theorem allF_any {a : Option Addr} {n cap : Nat} {l : List O} {w : World} (hl : OL w a n l) (hn : n ≤ 40) (hr : Runs V.zero l) : Calls Tryz.prog 30 #[.slice a n cap] w (AllPF l w) := by
 have HL := Lib.hid hl
 have HLEN := Lib.hid hl.len'
 have HRUN := Lib.hid hr
 obtain ⟨z, hz⟩ : ∃ z, V.zero = z := ⟨_, rfl⟩
 have HZ := Lib.hid hz
 obtain ⟨zo, hzo⟩ : ∃ z, O.zero = z := ⟨_, rfl⟩
 have HZO := Lib.hid hzo
 obtain ⟨s0, hs0⟩ : ∃ s, Sta.zero = s := ⟨_, rfl⟩
 have HZV : Hid (s0.v = z) := Lib.hid (by rw [← hs0]; exact hz)
 have HS0 : Hid (StTo l 0 s0) := Lib.hid (hs0 ▸ StTo.start l)
 have HSE : Hid (s0.es = [] ∧ s0.ts = []) := Lib.hid (by rw [← hs0]; exact ⟨rfl, rfl⟩)
 clear hl hr hz hzo hs0
 go_enter Tryz.func30, Tryz.ntmps30
 go_upto_region 2 with (refine wpList_run rfl (exec_alloc39z HZ.out rfl) ?_)
 have HA0 : Hid (AlW w ((w.alloc (.cells (sv z none 0 0 none 0 0) 39)).alloc (.cells (sv z none 0 0 none 0 0) 39)) w.heap.size (w.heap.size + 1) z s0 none 0 0 none 0 0) := Lib.hid ⟨(Blk.new w 39 _).below (below_one _ _), by have h := Blk.new (w.alloc (.cells (sv z none 0 0 none 0 0) 39)) 39 (sv z none 0 0 none 0 0); rw [World.size_alloc] at h; rw [HZV.out]; exact h, ⟨by rw [HSE.out.1]; exact GL.nil _ _ _, by rw [HSE.out.2]; exact GL.nil _ _ _⟩, below_2 _ _ _, ⟨fun _ h => (by cases h), fun _ h => (by cases h)⟩⟩
 try simp only [World.size_alloc]
 generalize (w.alloc (.cells (sv z none 0 0 none 0 0) 39)).alloc (.cells (sv z none 0 0 none 0 0) 39) = w0 at HA0 ⊢
 obtain ⟨pr, hpr⟩ : ∃ p, w.heap.size = p := ⟨_, rfl⟩
 obtain ⟨ps, hps⟩ : ∃ p, pr + 1 = p := ⟨_, rfl⟩
 have HPS : Hid (w.heap.size = pr ∧ pr + 1 = ps) := Lib.hid ⟨hpr, hps⟩
 rw [hpr, hps] at HA0
 rw [hpr, hps]
 clear hpr hps
 go_wp2_with fail
 go_loopw [11] (fun iv W => ∃ (k : Nat) (s : Sta) (a1 : Option Addr) (n1 c1 : Nat) (b1 : Option Addr) (m1 d1 : Nat), k ≤ n ∧ iv = .int .i64 (k : Int) ∧ Hid (StTo l k s) ∧ Hid (AlW w W pr ps z s a1 n1 c1 b1 m1 d1)) (fun iv _ => n - (intOf iv).toNat)
 case atStart => exact ⟨0, s0, none, 0, 0, none, 0, 0, Nat.zero_le _, rfl, HS0, HA0⟩
 case round =>
  obtain ⟨k, s, a1, n1, c1, b1, m1, d1, hk, rfl, HST, HA⟩ := hrel
  clear HA0 HS0
  by_cases hlt : k < n
  ·obtain ⟨g, off, x, rfl, hx, hrw⟩ := OL.at (HL.out.below HA.out.old) hlt
   have HX := Lib.hid hx
   have HRW := Lib.hid hrw
   clear hx hrw
   have hn1 : n1 < 100 := by have h1 := HA.out.sl.es.len'; have h2 := HST.out.spec.len.1; rw [List.length_take] at h2; omega
   have hm1 : m1 < 200000 := by have h1 := HA.out.sl.ts.len'; have h2 := HST.out.spec.len.2; rw [List.length_take] at h2; omega
   go_wp2_with (first | (refine wpList_run rfl (exec_idxO (i := k) rfl rfl rfl rfl hlt) ?_) | (refine wpList_run rfl (exec_ldO (p := x) rfl rfl HRW.out) ?_) | (refine wpList_run rfl (exec_alloc33z HZO.out rfl) ?_) | (refine wpList_stop33 rfl ?_))
   refine ⟨?_⟩
   refine wpList_void rfl rfl (exec_store33 (p := zo) (u := x) rfl rfl rfl (Blk.new wr 33 zo.arr)) ?_
   have hbo := bo_laid wr 33 zo.arr x.arr
   have HA1 := Lib.hid (HA.out.below hbo.old)
   have HX1 := Lib.hid hbo.one
   clear hbo HA HRW
   generalize (wr.alloc (.cells zo.arr 33)).setRow wr.heap.size x.arr = w3 at HA1 HX1 ⊢
   generalize wr.heap.size = px at HX1 ⊢
   go_wp2_with (first | (refine wpList_run rfl (exec_load39 rfl rfl HA1.out.ks) ?_) | (refine wpList_run rfl (exec_load33 (p := x) rfl rfl HX1.out) ?_))
   refine (apply_any HA1.out.sl hn1 hm1 x).mono ?_
   have happ := appS_of HST.out.spec.right (HST.out.ready HRUN.out HX.out)
   rw [happ.1, happ.2]
   have HST2 := Lib.hid (HST.out.step HRUN.out HX.out)
   obtain ⟨t, ht⟩ : ∃ t, applyS s x = t := ⟨_, rfl⟩
   rw [ht] at HST2 ⊢
   clear ht happ
   rintro e w4 ⟨a2, n2, c2, b2, m2, d2, rfl, hE, hT, hb⟩
   have HFAR : Hid ((∀ ad, a2 = some ad → n2 ≠ 0 → ps < ad.block ∧ ad.block < w4.heap.size) ∧ ∀ ad, b2 = some ad → m2 ≠ 0 → ps < ad.block ∧ ad.block < w4.heap.size) := Lib.hid ⟨fun ad e _ => by have := (hE.lt ad e); have := HA1.out.ks.lt; omega, fun ad e _ => by have := (hT.lt ad e); have := HA1.out.ks.lt; omega⟩
   have HSL : Hid (SL w4 t a2 n2 b2 m2) := Lib.hid ⟨hE.gl, hT.gl⟩
   have HA2 := Lib.hid (HA1.out.below hb)
   clear hE hT hb HA1 HX1 hn1 hm1
   go_wp2_with (first | (refine wpList_run rfl (exec_alloc39z HZ.out rfl) ?_) | (refine wpList_stop39 rfl ?_))
   refine ⟨?_⟩
   refine wpList_void rfl rfl (exec_store39 rfl rfl rfl (Blk.new w4 39 _)) ?_
   have hbo := bo_laid w4 39 (sv z none 0 0 none 0 0) (sv t.v a2 n2 c2 b2 m2 d2)
   have HA3 := Lib.hid (HA2.out.below hbo.old)
   have HSL3 := Lib.hid (HSL.out.below hbo.old)
   have HT3 := Lib.hid hbo.one
   clear hbo HA2 HSL
   generalize (w4.alloc (.cells (sv z none 0 0 none 0 0) 39)).setRow w4.heap.size (sv t.v a2 n2 c2 b2 m2 d2) = w5 at HA3 HSL3 HT3 ⊢
   generalize w4.heap.size = pt at HT3 HFAR ⊢
   go_wp2_with (first | (refine wpList_run rfl (exec_load39 rfl rfl HT3.out) ?_) | (refine wpList_stop39 rfl ?_))
   refine ⟨?_⟩
   refine wpList_void rfl rfl (exec_store39 rfl rfl rfl HA3.out.ks) ?_
   have hk2 := Kept.setRow w5 ps (sv t.v a2 n2 c2 b2 m2 d2)
   have HA4 : Hid (AlW w (w5.setRow ps (sv t.v a2 n2 c2 b2 m2 d2)) pr ps z t a2 n2 c2 b2 m2 d2) := Lib.hid ⟨HA3.out.kr.kept hk2 (by have := HPS.out; omega), HA3.out.ks.row, ⟨HSL3.out.es.keep hk2 (fun ad e h => by have := (HFAR.out.1 ad e h).1; omega), HSL3.out.ts.keep hk2 (fun ad e h => by have := (HFAR.out.2 ad e h).1; omega)⟩, HA3.out.old.trans (hk2.below HA3.out.old.size (fun j e => by have := HPS.out; omega)), ⟨fun ad e h => (HFAR.out.1 ad e h).1, fun ad e h => (HFAR.out.2 ad e h).1⟩⟩
   clear hk2 HA3 HSL3 HT3
   generalize w5.setRow ps (sv t.v a2 n2 c2 b2 m2 d2) = w6 at HA4 ⊢
   go_wp2_with fail
   go_roundw
   case rel => exact ⟨k + 1, t, a2, n2, c2, b2, m2, d2, hlt, by go_num, HST2, HA4⟩
   case measure => simp [intOf]; omega
  ·have HE : Hid (stOf Sta.zero l = s) := Lib.hid (by have h := HST.out.st; rwa [List.take_of_length_le (by rw [HLEN.out]; omega)] at h)
   go_wp2_with (first | (refine wpList_run rfl (exec_load39 rfl rfl HA.out.ks) ?_) | (refine wpList_stop39 rfl ?_))
   refine ⟨?_⟩
   refine wpList_void rfl rfl (exec_store39 rfl rfl rfl HA.out.kr) ?_
   have hk2 := Kept.setRow wr pr (sv s.v a1 n1 c1 b1 m1 d1)
   have HR : Hid (Blk (wr.setRow pr (sv s.v a1 n1 c1 b1 m1 d1)) pr 39 (sv s.v a1 n1 c1 b1 m1 d1)) := Lib.hid HA.out.kr.row
   have HF : Hid (AllPF l w (.returned (.tuple #[.agg (sv s.v a1 n1 c1 b1 m1 d1), .bool true])) (wr.setRow pr (sv s.v a1 n1 c1 b1 m1 d1))) := Lib.hid (by
    refine ⟨a1, n1, c1, b1, m1, d1, by rw [HE.out], ?_, HA.out.old.trans (hk2.below HA.out.old.size (fun j e => by have := HPS.out; omega)), ⟨fun ad e h => by have := HA.out.far.1 ad e h; have := HPS.out; omega, fun ad e h => by have := HA.out.far.2 ad e h; have := HPS.out; omega⟩⟩
    rw [HE.out]
    exact ⟨HA.out.sl.es.keep hk2 (fun ad e h => by have := HA.out.far.1 ad e h; have := HPS.out; omega), HA.out.sl.ts.keep hk2 (fun ad e h => by have := HA.out.far.2 ad e h; have := HPS.out; omega)⟩)
   clear hk2
   generalize wr.setRow pr (sv s.v a1 n1 c1 b1 m1 d1) = w6 at HR HF ⊢
   go_wp2_with fail
   exact bodyPost_ret (v := .tuple #[.agg (sv s.v a1 n1 c1 b1 m1 d1), .bool true]) (ret39_two rfl rfl rfl HR.out) rfl HF.out
end Go.Proofs.YtnekpgmgnepdoaaGreat
end
section
namespace Go.Proofs.YtnekpgmgnepdoaaGreat
open Go.RowKit Fold
structure Trr where
 s : Sta
 a : Option Addr
 n : Nat
 c : Nat
 b : Option Addr
 m : Nat
 d : Nat
def Trr.cs (x : Trr) : List Value := (sv x.s.v x.a x.n x.c x.b x.m x.d).toList
theorem Trr.len (x : Trr) : x.cs.length = 18 := by have := stA_size x.s.v (.slice x.a x.n x.c) (.slice x.b x.m x.d); simpa [Trr.cs] using this
def Trr.zero : Trr := ⟨Sta.zero, none, 0, 0, none, 0, 0⟩
def three (xs : Nat → List Value) : Array Value := ((xs 0) ++ ((xs 1) ++ (xs 2))).toArray
theorem three_at {q : Nat} {xs : Nat → List Value} (hl : ∀ k, k < 3 → (xs k).length = q) {W : World} {p t : Nat} (h : Blk W p t (three xs)) {k : Nat} (hk : k < 3) : W.rangeAt p (0 + k * q) (xs k) := fun j u hu => by
 have h0 := hl 0 (by omega)
 have h1 := hl 1 (by omega)
 have h2 := hl 2 (by omega)
 have hj : j < q := by rw [← hl k hk]; exact (List.getElem?_eq_some_iff.1 hu).1
 rw [h.cell, three, List.getElem?_toArray]
 match k, hk with
 | 0, _ => rw [List.getElem?_append_left (by omega)]; rw [show 0 + 0 * q + j = j by omega]; exact hu
 | 1, _ =>
  rw [List.getElem?_append_right (by omega), List.getElem?_append_left (by omega)]
  rw [show 0 + 1 * q + j - (xs 0).length = j by omega]; exact hu
 | 2, _ =>
  rw [List.getElem?_append_right (by omega), List.getElem?_append_right (by omega)]
  rw [show 0 + 2 * q + j - (xs 0).length - (xs 1).length = j by omega]; exact hu
theorem setCells_mid {t : TypeId} {g : Nat} : ∀ (zs xs ys us : List Value) (w : World), zs.length = ys.length → Blk w g t (xs ++ (ys ++ us)).toArray → Blk (w.setCells g xs.length zs) g t (xs ++ (zs ++ us)).toArray
 | [], xs, ys, us, w, h, hb => by
  obtain rfl : ys = [] := List.eq_nil_of_length_eq_zero h.symm
  exact hb
 | z :: zs, xs, [], us, w, h, hb => by simp at h
 | z :: zs, xs, y :: ys, us, w, h, hb => by
  have h1 := hb.set xs.length z
  have e : (xs ++ (y :: ys ++ us)).toArray.setIfInBounds xs.length z = ((xs ++ [z]) ++ (ys ++ us)).toArray := by simp
  rw [e] at h1
  have ih := setCells_mid zs (xs ++ [z]) ys us _ (by simpa using h) h1
  simpa [World.setCells] using ih
def upd3 (xs : Nat → Trr) (k : Nat) (y : Trr) : Nat → Trr := fun j => if j = k then y else xs j
theorem three_set {W : World} {p t : Nat} {xs : Nat → Trr} (h : Blk W p t (three fun j => (xs j).cs)) {k : Nat} (hk : k < 3) (y : Trr) : Blk (W.setCells p (0 + k * 18) y.cs) p t (three fun j => (upd3 xs k y j).cs) := by
 have h0 := (xs 0).len
 have h1 := (xs 1).len
 unfold three at h ⊢
 match k, hk with
 | 0, _ =>
  have := setCells_mid y.cs [] (xs 0).cs ((xs 1).cs ++ (xs 2).cs) W (by rw [y.len, h0]) (by simpa using h)
  simpa [upd3] using this
 | 1, _ =>
  have := setCells_mid y.cs (xs 0).cs (xs 1).cs (xs 2).cs W (by rw [y.len, h1]) h
  rw [h0] at this
  simpa [upd3] using this
 | 2, _ =>
  have := setCells_mid y.cs ((xs 0).cs ++ (xs 1).cs) (xs 2).cs [] W (by rw [y.len, (xs 2).len]) (by simpa using h)
  rw [List.length_append, h0, h1] at this
  simpa [upd3] using this
theorem und81 : Tryz.prog.underlying 81 = some (.array 3 39) := by kernel_rfl
theorem und80 : Tryz.prog.underlying 80 = some (.array 3 24) := by kernel_rfl
theorem zero54 : three (fun _ => Trr.zero.cs) = #[.int .u32 0, .int .u32 0, .int .u32 0, .int .u32 0, .int .u32 0, .int .u32 0, .int .u32 0, .int .u32 0, .int .u32 0, .int .u32 0, .int .u32 0, .int .u32 0, .int .u32 0, .int .u32 0, .int .u32 0, .int .u32 0, .slice none 0 0, .slice none 0 0, .int .u32 0, .int .u32 0, .int .u32 0, .int .u32 0, .int .u32 0, .int .u32 0, .int .u32 0, .int .u32 0, .int .u32 0, .int .u32 0, .int .u32 0, .int .u32 0, .int .u32 0, .int .u32 0, .int .u32 0, .int .u32 0, .slice none 0 0, .slice none 0 0, .int .u32 0, .int .u32 0, .int .u32 0, .int .u32 0, .int .u32 0, .int .u32 0, .int .u32 0, .int .u32 0, .int .u32 0, .int .u32 0, .int .u32 0, .int .u32 0, .int .u32 0, .int .u32 0, .int .u32 0, .int .u32 0, .slice none 0 0, .slice none 0 0] := by kernel_rfl
theorem info81 : (Tryz.prog.info? 81).map (fun i => (i.zero, i.size)) = some (some (.agg (three fun _ => Trr.zero.cs)), 54) := by rw [zero54]; kernel_rfl
theorem alloc81 (w : World) : (Instr.alloc 81 true (.tuple #[])).run Tryz.prog w = .ok (.pointer (some ⟨w.heap.size, 0, none⟩)) (w.alloc (.cells (three fun _ => Trr.zero.cs) 81)) := by
 simp only [Instr.alloc, Sem.run_bind, (zero_of_info info81).1, Result.andThen_ok]
 simp [newVar, newRow, Value.cells, go_sem]
section
variable {ev : Operand → Value} {q : Oper} {w : World}
theorem exec_alloc81 {zs : Array Value} (hz : three (fun _ => Trr.zero.cs) = zs) (ho : q.op = .alloc 81) : (execOp ev q).run Tryz.prog w = .ok (.value (.pointer (some ⟨w.heap.size, 0, none⟩))) (w.alloc (.cells zs 81)) := by
 subst hz
 unfold execOp
 simp only [ho, Sem.run_bind, alloc81, Result.andThen_ok]
 rfl
theorem exec_idx81 {x y : Operand} {b k : Nat} (ho : q.op = .indexAddr 81 x y) (hx : ev x = .pointer (some ⟨b, 0, none⟩)) (hy : ev y = .int .i64 (k : Int)) (hk : k < 3) : (execOp ev q).run Tryz.prog w = .ok (.value (.pointer (some ⟨b, 0 + k * 18, none⟩))) w := by
 unfold execOp
 have h2 : (k : Int) < 3 := by omega
 have h0 : (0 : Int) ≤ (k : Int) := by omega
 have hu := und81
 have hz : (Go.sizeOf 39).run Tryz.prog w = .ok 18 w := by kernel_rfl
 simp only [ho, hx, hy]
 go_simp
theorem exec_idx80 {x y : Operand} {b k : Nat} (ho : q.op = .indexAddr 80 x y) (hx : ev x = .pointer (some ⟨b, 0, none⟩)) (hy : ev y = .int .i64 (k : Int)) (hk : k < 3) : (execOp ev q).run Tryz.prog w = .ok (.value (.pointer (some ⟨b, 0 + k * 16, none⟩))) w := by
 unfold execOp
 have h2 : (k : Int) < 3 := by omega
 have h0 : (0 : Int) ≤ (k : Int) := by omega
 have hu := und80
 have hz : (Go.sizeOf 24).run Tryz.prog w = .ok 16 w := by kernel_rfl
 simp only [ho, hx, hy]
 go_simp
theorem exec_ld39v {x : Operand} {b off : Nat} {v : V} {a : Option Addr} {n c : Nat} {bb : Option Addr} {m d : Nat} (ho : q.op = .load 39 x) (hx : ev x = .pointer (some ⟨b, off, none⟩)) (h : w.rangeAt b off (sv v a n c bb m d).toList) : (execOp ev q).run Tryz.prog w = .ok (.value (.agg (sv v a n c bb m d))) w := by
 have hl := run_loadVar_mid (P := Tryz.prog) w b off 39 (sv v a n c bb m d).toList _ h und39 rfl (by simpa [stC_len] using size39)
 refine exec_cell ho hx ?_
 simp only [Instr.loadAt, Instr.sureAddr, Sem.run_bind, Sem.run_pure, Result.andThen_ok, hl]
theorem exec_ld39m {x : Operand} {b off : Nat} {xr : Trr} (ho : q.op = .load 39 x) (hx : ev x = .pointer (some ⟨b, off, none⟩)) (h : w.rangeAt b off xr.cs) : (execOp ev q).run Tryz.prog w = .ok (.value (.agg (sv xr.s.v xr.a xr.n xr.c xr.b xr.m xr.d))) w := exec_ld39v ho hx h
theorem exec_ld24m {x : Operand} {b off : Nat} {v : V} (ho : q.op = .load 24 x) (hx : ev x = .pointer (some ⟨b, off, none⟩)) (h : w.rangeAt b off v.cs) : (execOp ev q).run Tryz.prog w = .ok (.value (.agg v.arr)) w := by
 have hl := run_loadVar_mid (P := Tryz.prog) w b off 24 v.cs _ h und24 rfl (by rw [v.cs_len]; exact size24)
 refine exec_cell ho hx ?_
 simp only [Instr.loadAt, Instr.sureAddr, Sem.run_bind, Sem.run_pure, Result.andThen_ok, hl]
theorem exec_st39m {x y : Operand} {g o t : Nat} {cs : Array Value} {v : V} {a : Option Addr} {n c : Nat} {b : Option Addr} {m d : Nat} (ho : q.op = .store 39 x y) (hx : ev x = .pointer (some ⟨g, o, none⟩)) (hy : ev y = .agg (sv v a n c b m d)) (h : Blk w g t cs) (hlt : o + 18 ≤ cs.size) : (execOp ev q).run Tryz.prog w = .ok .skip (w.setCells g o (sv v a n c b m d).toList) := by
 have hs := run_storeAt_mid (P := Tryz.prog) w g o 39 (sv v a n c b m d) (h.there (by rw [stA_size]; omega)) (by rw [stA_size]; exact size39) (sv_one _ _ _ _ _ _ _)
 unfold execOp
 simp only [ho, hx, hy, Sem.run_bind, hs, Result.andThen_ok]
 rfl
end
theorem three_size {xs : Nat → Trr} : (three fun j => (xs j).cs).size = 54 := by simp [three, (xs 0).len, (xs 1).len, (xs 2).len]
theorem box80 (vs : Nat → V) (w : World) : (Instr.box 80 (.agg (three fun j => (vs j).cs))).run Tryz.prog w = .ok (.pointer (some ⟨w.heap.size, 0, none⟩)) (w.alloc (.cells (three fun j => (vs j).cs) 80)) := by
 simp [Instr.box, newVar, newRow, Value.cells, go_sem]
structure AkW (w W : World) (p3 p5 : Nat) (vs : Nat → V) (xs : Nat → Trr) (k : Nat) : Prop where
 kv : Blk W p3 80 (three fun j => (vs j).cs)
 ks : Blk W p5 81 (three fun j => (xs j).cs)
 sl : ∀ j, j < k → SL W (xs j).s (xs j).a (xs j).n (xs j).b (xs j).m
 far : ∀ j, j < k → (∀ ad, (xs j).a = some ad → (xs j).n ≠ 0 → p5 < ad.block) ∧ ∀ ad, (xs j).b = some ad → (xs j).m ≠ 0 → p5 < ad.block
 old : Below w.heap.size w W
 ord : w.heap.size ≤ p3 ∧ p3 < p5
theorem AkW.below {w W W' : World} {p3 p5 : Nat} {vs : Nat → V} {xs : Nat → Trr} {k : Nat} (h : AkW w W p3 p5 vs xs k) (hb : Below W.heap.size W W') : AkW w W' p3 p5 vs xs k :=
 ⟨h.kv.below hb, h.ks.below hb, fun j hj => (h.sl j hj).below hb, h.far, h.old.trans (hb.mono h.old.size), h.ord⟩
theorem AkW.at_ {w W : World} {p3 p5 : Nat} {vs : Nat → V} {xs : Nat → Trr} {k : Nat} (h : AkW w W p3 p5 vs xs k) (j : Nat) (hj : j < 3) : W.rangeAt p5 (0 + j * 18) (xs j).cs := three_at (fun k _ => (xs k).len) h.ks hj
theorem AkW.vec {w W : World} {p3 p5 : Nat} {vs : Nat → V} {xs : Nat → Trr} {k : Nat} (h : AkW w W p3 p5 vs xs k) {j : Nat} (hj : j < 3) : W.rangeAt p3 (0 + j * 16) (vs j).cs := three_at (fun k _ => (vs k).cs_len) h.kv hj
theorem AkW.set {w W : World} {p3 p5 : Nat} {vs : Nat → V} {xs : Nat → Trr} {k : Nat} (h : AkW w W p3 p5 vs xs k) (hk : k < 3) (y : Trr) (hs : SL W y.s y.a y.n y.b y.m) (hf : (∀ ad, y.a = some ad → y.n ≠ 0 → p5 < ad.block) ∧ ∀ ad, y.b = some ad → y.m ≠ 0 → p5 < ad.block) : AkW w (W.setCells p5 (0 + k * 18) y.cs) p3 p5 vs (upd3 xs k y) (k + 1) := by
 have hkp := Kept.setRange (g := p5) y.cs (0 + k * 18) W
 have hord := h.ord
 have key : ∀ {x : Trr}, SL W x.s x.a x.n x.b x.m → ((∀ ad, x.a = some ad → x.n ≠ 0 → p5 < ad.block) ∧ ∀ ad, x.b = some ad → x.m ≠ 0 → p5 < ad.block) → SL (W.setCells p5 (0 + k * 18) y.cs) x.s x.a x.n x.b x.m := fun {x} h1 h2 =>
  ⟨h1.es.keep hkp (fun ad e h0 => by have := h2.1 ad e h0; omega), h1.ts.keep hkp (fun ad e h0 => by have := h2.2 ad e h0; omega)⟩
 refine ⟨h.kv.kept hkp (by omega), three_set h.ks hk y, fun j hj => ?_, fun j hj => ?_, h.old.trans (hkp.below h.old.size (fun j e => by omega)), hord⟩
 ·unfold upd3
  by_cases e : j = k
  ·rw [if_pos e]; exact key hs hf
  ·rw [if_neg e]; exact key (h.sl j (by omega)) (h.far j (by omega))
 ·unfold upd3
  by_cases e : j = k
  ·rw [if_pos e]; exact hf
  ·rw [if_neg e]; exact h.far j (by omega)
def AkS (l : List O) (vs : Nat → V) (xs : Nat → Trr) (k : Nat) : Prop := ∀ j, j < k → Closed (under l (vs j)) ∧ (xs j).s = stOf Sta.zero (under l (vs j))
theorem AkS.set {l : List O} {vs : Nat → V} {xs : Nat → Trr} {k : Nat} (h : AkS l vs xs k) (y : Trr) (hc : Closed (under l (vs k))) (hy : y.s = stOf Sta.zero (under l (vs k))) : AkS l vs (upd3 xs k y) (k + 1) := fun j hj => by
 unfold upd3
 by_cases e : j = k
 ·subst e; rw [if_pos rfl]; exact ⟨hc, hy⟩
 ·rw [if_neg e]; exact h j (by omega)
structure AzW (w W : World) (p5 : Nat) (u01 u012 s0 : Sta) (a0 : Option Addr) (n0 c0 : Nat) (b0 : Option Addr) (m0 d0 : Nat) (q4 : Nat) (a4 : Option Addr) (n4 c4 : Nat) (b4 : Option Addr) (m4 d4 : Nat) (q5 : Nat) (a5 : Option Addr) (n5 c5 : Nat) (b5 : Option Addr) (m5 d5 : Nat) (q6 : Nat) (a6 : Option Addr) (n6 c6 : Nat) (b6 : Option Addr) (m6 d6 : Nat) (q8 : Nat) (a8 : Option Addr) (n8 c8 : Nat) (b8 : Option Addr) (m8 d8 : Nat) (q9 : Nat) (a9 : Option Addr) (n9 c9 : Nat) (b9 : Option Addr) (m9 d9 : Nat) : Prop where
 k4 : Blk W q4 39 (sv u01.v a4 n4 c4 b4 m4 d4)
 l4 : SL W u01 a4 n4 b4 m4
 k5 : Blk W q5 39 (sv u01.v a5 n5 c5 b5 m5 d5)
 l5 : SL W u01 a5 n5 b5 m5
 k6 : Blk W q6 39 (sv u012.v a6 n6 c6 b6 m6 d6)
 l6 : SL W u012 a6 n6 b6 m6
 k8 : Blk W q8 39 (sv u012.v a8 n8 c8 b8 m8 d8)
 l8 : SL W u012 a8 n8 b8 m8
 k9 : Blk W q9 39 (sv s0.v a9 n9 c9 b9 m9 d9)
 l9 : SL W s0 a9 n9 b9 m9
 r0 : W.rangeAt p5 (0 + 0 * 18) (sv s0.v a0 n0 c0 b0 m0 d0).toList
 l0 : SL W s0 a0 n0 b0 m0
 old : Below w.heap.size w W
theorem AzW.below {w W W' : World} {p5 : Nat} {u01 u012 s0 : Sta} {a0 : Option Addr} {n0 c0 : Nat} {b0 : Option Addr} {m0 d0 : Nat} {q4 : Nat} {a4 : Option Addr} {n4 c4 : Nat} {b4 : Option Addr} {m4 d4 : Nat} {q5 : Nat} {a5 : Option Addr} {n5 c5 : Nat} {b5 : Option Addr} {m5 d5 : Nat} {q6 : Nat} {a6 : Option Addr} {n6 c6 : Nat} {b6 : Option Addr} {m6 d6 : Nat} {q8 : Nat} {a8 : Option Addr} {n8 c8 : Nat} {b8 : Option Addr} {m8 d8 : Nat} {q9 : Nat} {a9 : Option Addr} {n9 c9 : Nat} {b9 : Option Addr} {m9 d9 : Nat} (h : AzW w W p5 u01 u012 s0 a0 n0 c0 b0 m0 d0 q4 a4 n4 c4 b4 m4 d4 q5 a5 n5 c5 b5 m5 d5 q6 a6 n6 c6 b6 m6 d6 q8 a8 n8 c8 b8 m8 d8 q9 a9 n9 c9 b9 m9 d9) (hb : Below W.heap.size W W') : AzW w W' p5 u01 u012 s0 a0 n0 c0 b0 m0 d0 q4 a4 n4 c4 b4 m4 d4 q5 a5 n5 c5 b5 m5 d5 q6 a6 n6 c6 b6 m6 d6 q8 a8 n8 c8 b8 m8 d8 q9 a9 n9 c9 b9 m9 d9 :=
 ⟨h.k4.below hb, h.l4.below hb, h.k5.below hb, h.l5.below hb, h.k6.below hb, h.l6.below hb, h.k8.below hb, h.l8.below hb, h.k9.below hb, h.l9.below hb, fun j u hu => below_at hb (h.r0 j u hu), h.l0.below hb, h.old.trans (hb.mono h.old.size)⟩
theorem AzW.drew {w W : World} {p5 : Nat} {u01 u012 s0 : Sta} {a0 : Option Addr} {n0 c0 : Nat} {b0 : Option Addr} {m0 d0 : Nat} {q4 : Nat} {a4 : Option Addr} {n4 c4 : Nat} {b4 : Option Addr} {m4 d4 : Nat} {q5 : Nat} {a5 : Option Addr} {n5 c5 : Nat} {b5 : Option Addr} {m5 d5 : Nat} {q6 : Nat} {a6 : Option Addr} {n6 c6 : Nat} {b6 : Option Addr} {m6 d6 : Nat} {q8 : Nat} {a8 : Option Addr} {n8 c8 : Nat} {b8 : Option Addr} {m8 d8 : Nat} {q9 : Nat} {a9 : Option Addr} {n9 c9 : Nat} {b9 : Option Addr} {m9 d9 : Nat} (h : AzW w W p5 u01 u012 s0 a0 n0 c0 b0 m0 d0 q4 a4 n4 c4 b4 m4 d4 q5 a5 n5 c5 b5 m5 d5 q6 a6 n6 c6 b6 m6 d6 q8 a8 n8 c8 b8 m8 d8 q9 a9 n9 c9 b9 m9 d9) : AzW w W.drew p5 u01 u012 s0 a0 n0 c0 b0 m0 d0 q4 a4 n4 c4 b4 m4 d4 q5 a5 n5 c5 b5 m5 d5 q6 a6 n6 c6 b6 m6 d6 q8 a8 n8 c8 b8 m8 d8 q9 a9 n9 c9 b9 m9 d9 :=
 ⟨h.k4, h.l4.below (drew_below _), h.k5, h.l5.below (drew_below _), h.k6, h.l6.below (drew_below _), h.k8, h.l8.below (drew_below _), h.k9, h.l9.below (drew_below _), fun j u hu => h.r0 j u hu, h.l0.below (drew_below _), h.old.drew⟩
set_option maxRecDepth 100000 in
set_option maxHeartbeats 64000000 in
theorem any_walk {a : Option Addr} {n cap : Nat} {l : List O} {w : World} (halive : ∀ W, Calls Tryz.prog 12 #[] W (Says (.bool true) W)) (hl : OL w a n l) (hn : n < 9223372036854775808) (hcap : n ≤ cap) (vs : Nat → V) : Calls Tryz.prog 8 #[.slice a n cap, .agg (three fun j => (vs j).cs)] w (Says (.bool true) w) := by
 have HL := Lib.hid hl
 have HLEN := Lib.hid hl.len'
 have HAL := Lib.hid halive
 obtain ⟨z, hz⟩ : ∃ z, V.zero = z := ⟨_, rfl⟩
 have HZ := Lib.hid hz
 obtain ⟨zs, hzs⟩ : ∃ z, three (fun _ => Trr.zero.cs) = z := ⟨_, rfl⟩
 have HZS := Lib.hid hzs
 have hb1 := fun w => box80 vs w
 have H0 : Hid (Blk (w.alloc (.cells (three fun j => (vs j).cs) 80)) w.heap.size 80 (three fun j => (vs j).cs)) := Lib.hid (Blk.new w 80 _)
 have HB0 := Lib.hid (below_one w (.cells (three fun j => (vs j).cs) 80))
 clear hl halive hz hzs
 obtain ⟨va, hva⟩ : ∃ va, three (fun j => (vs j).cs) = va := ⟨_, rfl⟩
 have HVA := Lib.hid hva
 rw [hva] at hb1 H0 HB0 ⊢
 clear hva
 go_enter Tryz.func8, Tryz.ntmps8
 go_upto_region 1 with fail
 clear hb1
 generalize w.alloc (.cells va 80) = w0 at H0 HB0 ⊢
 obtain ⟨p3, hp3⟩ : ∃ p, w.heap.size = p := ⟨_, rfl⟩
 have HP3 : Hid (w.heap.size = p3) := Lib.hid hp3
 rw [hp3] at H0
 rw [hp3]
 clear hp3
 go_wp2_with fail
 refine (HAL.out _).mono ?_
 rintro e w1 ⟨rfl, hb⟩
 have H1 := Lib.hid (H0.out.below hb)
 have HB1 := Lib.hid (HB0.out.trans (hb.mono HB0.out.size))
 clear hb H0 HB0
 go_wp2_with fail
 refine (hist_any (HL.out.below HB1.out) hn hcap).mono ?_
 rintro e w2 ⟨hi, rfl, hhi, hb⟩
 have H2 := Lib.hid (H1.out.below hb)
 have HB2 := Lib.hid (HB1.out.trans (hb.mono HB1.out.size))
 clear hb H1 HB1
 cases hi
 ·clear hhi
  go_wp2_with fail
  go_ret
  exact ⟨rfl, HB2.out⟩
 have HH := Lib.hid (hhi.1 rfl)
 clear hhi hn
 have hn : n ≤ 40 := by have := HH.out.few; have := HLEN.out; omega
 go_wp2_with (refine wpList_run rfl (exec_alloc81 HZS.out rfl) ?_)
 have HK0 : Hid (AkW w (w2.alloc (.cells zs 81)) p3 w2.heap.size vs (fun _ => Trr.zero) 0) := Lib.hid ⟨by rw [HVA.out]; exact H2.out.below (below_one w2 _), by rw [← HZS.out]; exact Blk.new w2 81 _, fun j h => by omega, fun j h => by omega, HB2.out.trans ((below_one w2 _).mono HB2.out.size), by have := HP3.out; have := H2.out.lt; omega⟩
 clear HB2 H2
 generalize w2.alloc (.cells zs 81) = w3 at HK0 ⊢
 generalize w2.heap.size = p5 at HK0 ⊢
 go_loopw [26] (fun iv W => ∃ (k : Nat) (xs : Nat → Trr), k ≤ 3 ∧ iv = .int .i64 (k : Int) ∧ Hid (AkW w W p3 p5 vs xs k) ∧ Hid (AkS l vs xs k)) (fun iv _ => 3 - (intOf iv).toNat)
 case atStart => exact ⟨0, _, Nat.zero_le _, rfl, HK0, Lib.hid (fun j h => by omega)⟩
 case round =>
 obtain ⟨k, xs, hk, rfl, HK, HS⟩ := hrel
 clear HK0
 by_cases hlt : k < 3
 ·go_wp2_with (first | (refine wpList_run rfl (exec_idx80 (k := k) rfl rfl rfl hlt) ?_) | (refine wpList_run rfl (exec_ld24m (v := vs k) rfl rfl (HK.out.vec hlt)) ?_))
  refine (runder_any (HL.out.below HK.out.old) (by omega) (vs k)).mono ?_
  rintro e w4 ⟨ax, cx, rfl, hox, hb⟩
  have HK1 := Lib.hid (HK.out.below hb)
  have HX := Lib.hid hox.gl
  have HXC := Lib.hid (own_cap hox)
  have HXF : Hid ((under l (vs k)).length ≤ 40) := Lib.hid (Nat.le_trans (List.length_filter_le _ _) HH.out.few)
  clear hb hox HK
  go_wp2_with fail
  refine (refclosed_any HX.out (by have := HXF.out; omega) HXC.out).mono ?_
  rintro e w5 ⟨bx, rfl, hbx, hb⟩
  have HK2 := Lib.hid (HK1.out.below hb)
  have HX2 := Lib.hid (HX.out.below hb)
  clear hb HK1 HX
  cases bx
  ·clear hbx
   go_wp2_with fail
   go_ret
   exact ⟨rfl, HK2.out.old⟩
  have HCX := Lib.hid (hbx.1 rfl)
  clear hbx
  have HPX := Lib.hid (part_of HH.out HCX.out)
  have HAX := allF_any (cap := cx) HX2.out HXF.out HPX.out.runs
  unfold AllPF at HAX
  have HSE : Hid (∀ s, stOf Sta.zero (under l (vs k)) = s → ∀ (xs : Nat → Trr) (y : Trr), AkS l vs xs k → y.s = s → AkS l vs (upd3 xs k y) (k + 1)) := Lib.hid (fun s hs xs y h hy => h.set y HCX.out (by rw [hy, hs]))
  obtain ⟨s, hs⟩ : ∃ s, stOf Sta.zero (under l (vs k)) = s := ⟨_, rfl⟩
  have HSE2 := Lib.hid (HSE.out s hs)
  rw [hs] at HAX
  clear hs HSE
  have HAX := Lib.hid HAX
  go_wp2_with fail
  refine HAX.out.mono ?_
  rintro e w6 ⟨a1, n1, c1, b1, m1, d1, rfl, hsl, hb, hfar⟩
  have HK3 := Lib.hid (HK2.out.below hb)
  have HSL := Lib.hid hsl
  clear hb hsl HAX HX2
  have HFARP : Hid ((∀ ad, a1 = some ad → n1 ≠ 0 → p5 < ad.block) ∧ ∀ ad, b1 = some ad → m1 ≠ 0 → p5 < ad.block) := Lib.hid ⟨fun ad e h => by have := hfar.1 ad e h; have := HK2.out.ks.lt; omega, fun ad e h => by have := hfar.2 ad e h; have := HK2.out.ks.lt; omega⟩
  clear hfar
  clear HK2
  go_wp2_with (first | (refine wpList_run rfl (exec_idx81 (k := k) rfl rfl rfl hlt) ?_) | (refine wpList_stop39 rfl ?_))
  refine ⟨?_⟩
  refine wpList_void rfl rfl (exec_st39m rfl rfl rfl HK3.out.ks (by rw [three_size]; omega)) ?_
  have HK4 : Hid (AkW w (w6.setCells p5 (k * 18) (sv s.v a1 n1 c1 b1 m1 d1).toList) p3 p5 vs (upd3 xs k ⟨s, a1, n1, c1, b1, m1, d1⟩) (k + 1)) := Lib.hid (by have h := HK3.out.set hlt ⟨s, a1, n1, c1, b1, m1, d1⟩ HSL.out HFARP.out; rw [Nat.zero_add] at h; exact h)
  have HS4 : Hid (AkS l vs (upd3 xs k ⟨s, a1, n1, c1, b1, m1, d1⟩) (k + 1)) := Lib.hid (HSE2.out xs _ HS.out rfl)
  clear HK3 HSL HFARP HSE2
  generalize w6.setCells p5 (k * 18) (sv s.v a1 n1 c1 b1 m1 d1).toList = w7 at HK4 ⊢
  go_wp2_with fail
  go_roundw
  case rel => exact ⟨k + 1, _, hlt, by go_num, HK4, HS4⟩
  case measure => simp [intOf]; omega
 obtain rfl : k = 3 := by omega
 clear hlt hk
 have hC := fun j (hj : j < 3) => (HS.out j hj).1
 have hE := fun j (hj : j < 3) => (HS.out j hj).2
 obtain ⟨c01, m01⟩ := closed_join HH.out (hC 0 (by omega)) (hC 1 (by omega))
 obtain ⟨c12, m12⟩ := closed_join HH.out (hC 1 (by omega)) (hC 2 (by omega))
 obtain ⟨c012, m012⟩ := closed_join HH.out c01 (hC 2 (by omega))
 have P0 := part_of HH.out (hC 0 (by omega))
 have P1 := part_of HH.out (hC 1 (by omega))
 have P2 := part_of HH.out (hC 2 (by omega))
 have P01 := part_of HH.out c01
 have P12 := part_of HH.out c12
 have P012 := part_of HH.out c012
 obtain ⟨s0, hs0⟩ : ∃ s, (xs 0).s = s := ⟨_, rfl⟩
 obtain ⟨u01, hu01⟩ : ∃ s, stOf Sta.zero (under l (V.join (vs 0) (vs 1))) = s := ⟨_, rfl⟩
 obtain ⟨u12, hu12⟩ : ∃ s, stOf Sta.zero (under l (V.join (vs 1) (vs 2))) = s := ⟨_, rfl⟩
 obtain ⟨u012, hu012⟩ : ∃ s, stOf Sta.zero (under l (V.join (V.join (vs 0) (vs 1)) (vs 2))) = s := ⟨_, rfl⟩
 have HM01 : Hid (∀ er m, MgA (xs 0).s (xs 1).s er m → er = 0 ∧ m = u01) := Lib.hid (fun er m k => by rw [hE 0 (by omega), hE 1 (by omega)] at k; rw [← hu01]; exact mgA_part HH.out P0 P1 P01 m01 k)
 have HM10 : Hid (∀ er m, MgA (xs 1).s (xs 0).s er m → er = 0 ∧ m = u01) := Lib.hid (fun er m k => by rw [hE 0 (by omega), hE 1 (by omega)] at k; rw [← hu01]; exact mgA_part HH.out P1 P0 P01 (fun o => (m01 o).trans or_comm) k)
 have HML : Hid (∀ er m, MgA u01 (xs 2).s er m → er = 0 ∧ m = u012) := Lib.hid (fun er m k => by rw [hE 2 (by omega), ← hu01] at k; rw [← hu012]; exact mgA_part HH.out P01 P2 P012 m012 k)
 have HM12 : Hid (∀ er m, MgA (xs 1).s (xs 2).s er m → er = 0 ∧ m = u12) := Lib.hid (fun er m k => by rw [hE 1 (by omega), hE 2 (by omega)] at k; rw [← hu12]; exact mgA_part HH.out P1 P2 P12 m12 k)
 have HMR : Hid (∀ er m, MgA (xs 0).s u12 er m → er = 0 ∧ m = u012) := Lib.hid (fun er m k => by rw [hE 0 (by omega), ← hu12] at k; rw [← hu012]; exact mgA_part HH.out P0 P12 P012 (fun o => by rw [m012, m01, m12, or_assoc]) k)
 have HMS : Hid (∀ er m, MgA (xs 0).s (xs 0).s er m → er = 0 ∧ m = s0) := Lib.hid (fun er m k => by rw [← hs0]; rw [hE 0 (by omega)] at k ⊢; exact mgA_part HH.out P0 P0 P0 (fun o => by simp) k)
 have HFu01 : Hid (∀ W a n b m, SL W u01 a n b m → n ≤ 40 ∧ m ≤ 40) := Lib.hid (fun W a n b m k => by rw [← hu01] at k; exact sl_few P01 k)
 have HFu12 : Hid (∀ W a n b m, SL W u12 a n b m → n ≤ 40 ∧ m ≤ 40) := Lib.hid (fun W a n b m k => by rw [← hu12] at k; exact sl_few P12 k)
 have HFu012 : Hid (∀ W a n b m, SL W u012 a n b m → n ≤ 40 ∧ m ≤ 40) := Lib.hid (fun W a n b m k => by rw [← hu012] at k; exact sl_few P012 k)
 have HFs0 : Hid (∀ W a n b m, SL W s0 a n b m → n ≤ 40 ∧ m ≤ 40) := Lib.hid (fun W a n b m k => by rw [← hs0, hE 0 (by omega)] at k; exact sl_few P0 k)
 have HFW : Hid (∀ j, j < 3 → (xs j).n ≤ 40 ∧ (xs j).m ≤ 40) := Lib.hid (fun j hj => by have h := HK.out.sl j hj; rw [hE j hj] at h; exact sl_few (part_of HH.out (hC j hj)) h)
 have HS0 := Lib.hid hs0
 clear hC hE c01 m01 c12 m12 c012 m012 P0 P1 P2 P01 P12 P012 hs0 hu01 hu12 hu012 HS
 go_wp2_with (first | (refine wpList_run rfl (exec_idx81 (k := 0) rfl rfl rfl (by omega)) ?_) | (refine wpList_run rfl (exec_idx81 (k := 1) rfl rfl rfl (by omega)) ?_) | (refine wpList_run rfl (exec_ld39m (xr := xs 0) rfl rfl (HK.out.at_ 0 (by omega))) ?_) | (refine wpList_run rfl (exec_ld39m (xr := xs 1) rfl rfl (HK.out.at_ 1 (by omega))) ?_))
 refine (merge_any (HK.out.sl 0 (by omega)) (HK.out.sl 1 (by omega)) (by have := HFW.out 0 (by omega); omega) (by have := HFW.out 0 (by omega); omega) (by have := HFW.out 1 (by omega); omega) (by have := HFW.out 1 (by omega); omega)).mono ?_
 rintro e v4 ⟨er, mm, hM, a4, n4, c4, b4, m4, d4, rfl, hE, hT, hb⟩
 obtain ⟨rfl, hmm⟩ := HM01.out _ _ hM
 have hmm := hmm.symm
 subst hmm
 have hf4 := HFu01.out _ _ _ _ _ (⟨hE.gl, hT.gl⟩ : SL v4 u01 a4 n4 b4 m4)
 have HSA : Hid (SL v4 u01 a4 n4 b4 m4) := Lib.hid ⟨hE.gl, hT.gl⟩
 have HK1 := Lib.hid (HK.out.below hb)
 clear hb hE hT hM HK 
 go_wp2_with (first | (refine wpList_run rfl (exec_alloc39z HZ.out rfl) ?_) | (refine wpList_stop39 rfl ?_))
 refine ⟨?_⟩
 refine wpList_void rfl rfl (exec_store39 rfl rfl rfl (Blk.new v4 39 _)) ?_
 have hbo := bo_laid v4 39 (sv z none 0 0 none 0 0) (sv u01.v a4 n4 c4 b4 m4 d4)
 have HK := Lib.hid (HK1.out.below hbo.old)
 have HS4 : Hid (JsW ((v4.alloc (.cells (sv z none 0 0 none 0 0) 39)).setRow v4.heap.size (sv u01.v a4 n4 c4 b4 m4 d4)) v4.heap.size u01 a4 n4 c4 b4 m4 d4) := Lib.hid ⟨hbo.one, HSA.out.below hbo.old⟩
 clear hbo HK1 HSA 
 generalize (v4.alloc (.cells (sv z none 0 0 none 0 0) 39)).setRow v4.heap.size (sv u01.v a4 n4 c4 b4 m4 d4) = w4 at HK  HS4 ⊢
 generalize v4.heap.size = p4_ at HS4 ⊢
 go_wp2_with (first | (refine wpList_run rfl (exec_idx81 (k := 0) rfl rfl rfl (by omega)) ?_) | (refine wpList_run rfl (exec_idx81 (k := 1) rfl rfl rfl (by omega)) ?_) | (refine wpList_run rfl (exec_ld39m (xr := xs 0) rfl rfl (HK.out.at_ 0 (by omega))) ?_) | (refine wpList_run rfl (exec_ld39m (xr := xs 1) rfl rfl (HK.out.at_ 1 (by omega))) ?_))
 refine (merge_any (HK.out.sl 1 (by omega)) (HK.out.sl 0 (by omega)) (by have := HFW.out 1 (by omega); omega) (by have := HFW.out 1 (by omega); omega) (by have := HFW.out 0 (by omega); omega) (by have := HFW.out 0 (by omega); omega)).mono ?_
 rintro e v5 ⟨er, mm, hM, a5, n5, c5, b5, m5, d5, rfl, hE, hT, hb⟩
 obtain ⟨rfl, hmm⟩ := HM10.out _ _ hM
 have hmm := hmm.symm
 subst hmm
 have hf5 := HFu01.out _ _ _ _ _ (⟨hE.gl, hT.gl⟩ : SL v5 u01 a5 n5 b5 m5)
 have HSA : Hid (SL v5 u01 a5 n5 b5 m5) := Lib.hid ⟨hE.gl, hT.gl⟩
 have HK1 := Lib.hid (HK.out.below hb)
 have HS41 := Lib.hid (HS4.out.below hb)
 clear hb hE hT hM HK HS4
 go_wp2_with (first | (refine wpList_run rfl (exec_alloc39z HZ.out rfl) ?_) | (refine wpList_stop39 rfl ?_))
 refine ⟨?_⟩
 refine wpList_void rfl rfl (exec_store39 rfl rfl rfl (Blk.new v5 39 _)) ?_
 have hbo := bo_laid v5 39 (sv z none 0 0 none 0 0) (sv u01.v a5 n5 c5 b5 m5 d5)
 have HK := Lib.hid (HK1.out.below hbo.old)
 have HS4 := Lib.hid (HS41.out.below hbo.old)
 have HS5 : Hid (JsW ((v5.alloc (.cells (sv z none 0 0 none 0 0) 39)).setRow v5.heap.size (sv u01.v a5 n5 c5 b5 m5 d5)) v5.heap.size u01 a5 n5 c5 b5 m5 d5) := Lib.hid ⟨hbo.one, HSA.out.below hbo.old⟩
 clear hbo HK1 HSA HS41
 generalize (v5.alloc (.cells (sv z none 0 0 none 0 0) 39)).setRow v5.heap.size (sv u01.v a5 n5 c5 b5 m5 d5) = w5 at HK HS4 HS5 ⊢
 generalize v5.heap.size = p5_ at HS5 ⊢
 go_wp2_with (first | (refine wpList_run rfl (exec_idx81 (k := 2) rfl rfl rfl (by omega)) ?_) | (refine wpList_run rfl (exec_ld39m (xr := xs 2) rfl rfl (HK.out.at_ 2 (by omega))) ?_) | (refine wpList_run rfl (exec_load39 rfl rfl HS4.out.k) ?_))
 refine (merge_any (HS4.out.sl) (HK.out.sl 2 (by omega)) (by have := hf4; omega) (by have := hf4; omega) (by have := HFW.out 2 (by omega); omega) (by have := HFW.out 2 (by omega); omega)).mono ?_
 rintro e v6 ⟨er, mm, hM, a6, n6, c6, b6, m6, d6, rfl, hE, hT, hb⟩
 obtain ⟨rfl, hmm⟩ := HML.out _ _ hM
 have hmm := hmm.symm
 subst hmm
 have hf6 := HFu012.out _ _ _ _ _ (⟨hE.gl, hT.gl⟩ : SL v6 u012 a6 n6 b6 m6)
 have HSA : Hid (SL v6 u012 a6 n6 b6 m6) := Lib.hid ⟨hE.gl, hT.gl⟩
 have HK1 := Lib.hid (HK.out.below hb)
 have HS41 := Lib.hid (HS4.out.below hb)
 have HS51 := Lib.hid (HS5.out.below hb)
 clear hb hE hT hM HK HS4 HS5
 go_wp2_with (first | (refine wpList_run rfl (exec_alloc39z HZ.out rfl) ?_) | (refine wpList_stop39 rfl ?_))
 refine ⟨?_⟩
 refine wpList_void rfl rfl (exec_store39 rfl rfl rfl (Blk.new v6 39 _)) ?_
 have hbo := bo_laid v6 39 (sv z none 0 0 none 0 0) (sv u012.v a6 n6 c6 b6 m6 d6)
 have HK := Lib.hid (HK1.out.below hbo.old)
 have HS4 := Lib.hid (HS41.out.below hbo.old)
 have HS5 := Lib.hid (HS51.out.below hbo.old)
 have HS6 : Hid (JsW ((v6.alloc (.cells (sv z none 0 0 none 0 0) 39)).setRow v6.heap.size (sv u012.v a6 n6 c6 b6 m6 d6)) v6.heap.size u012 a6 n6 c6 b6 m6 d6) := Lib.hid ⟨hbo.one, HSA.out.below hbo.old⟩
 clear hbo HK1 HSA HS41 HS51
 generalize (v6.alloc (.cells (sv z none 0 0 none 0 0) 39)).setRow v6.heap.size (sv u012.v a6 n6 c6 b6 m6 d6) = w6 at HK HS4 HS5 HS6 ⊢
 generalize v6.heap.size = p6_ at HS6 ⊢
 go_wp2_with (first | (refine wpList_run rfl (exec_idx81 (k := 1) rfl rfl rfl (by omega)) ?_) | (refine wpList_run rfl (exec_idx81 (k := 2) rfl rfl rfl (by omega)) ?_) | (refine wpList_run rfl (exec_ld39m (xr := xs 1) rfl rfl (HK.out.at_ 1 (by omega))) ?_) | (refine wpList_run rfl (exec_ld39m (xr := xs 2) rfl rfl (HK.out.at_ 2 (by omega))) ?_))
 refine (merge_any (HK.out.sl 1 (by omega)) (HK.out.sl 2 (by omega)) (by have := HFW.out 1 (by omega); omega) (by have := HFW.out 1 (by omega); omega) (by have := HFW.out 2 (by omega); omega) (by have := HFW.out 2 (by omega); omega)).mono ?_
 rintro e v7 ⟨er, mm, hM, a7, n7, c7, b7, m7, d7, rfl, hE, hT, hb⟩
 obtain ⟨rfl, hmm⟩ := HM12.out _ _ hM
 have hmm := hmm.symm
 subst hmm
 have hf7 := HFu12.out _ _ _ _ _ (⟨hE.gl, hT.gl⟩ : SL v7 u12 a7 n7 b7 m7)
 have HSA : Hid (SL v7 u12 a7 n7 b7 m7) := Lib.hid ⟨hE.gl, hT.gl⟩
 have HK1 := Lib.hid (HK.out.below hb)
 have HS41 := Lib.hid (HS4.out.below hb)
 have HS51 := Lib.hid (HS5.out.below hb)
 have HS61 := Lib.hid (HS6.out.below hb)
 clear hb hE hT hM HK HS4 HS5 HS6
 go_wp2_with (first | (refine wpList_run rfl (exec_alloc39z HZ.out rfl) ?_) | (refine wpList_stop39 rfl ?_))
 refine ⟨?_⟩
 refine wpList_void rfl rfl (exec_store39 rfl rfl rfl (Blk.new v7 39 _)) ?_
 have hbo := bo_laid v7 39 (sv z none 0 0 none 0 0) (sv u12.v a7 n7 c7 b7 m7 d7)
 have HK := Lib.hid (HK1.out.below hbo.old)
 have HS4 := Lib.hid (HS41.out.below hbo.old)
 have HS5 := Lib.hid (HS51.out.below hbo.old)
 have HS6 := Lib.hid (HS61.out.below hbo.old)
 have HS7 : Hid (JsW ((v7.alloc (.cells (sv z none 0 0 none 0 0) 39)).setRow v7.heap.size (sv u12.v a7 n7 c7 b7 m7 d7)) v7.heap.size u12 a7 n7 c7 b7 m7 d7) := Lib.hid ⟨hbo.one, HSA.out.below hbo.old⟩
 clear hbo HK1 HSA HS41 HS51 HS61
 generalize (v7.alloc (.cells (sv z none 0 0 none 0 0) 39)).setRow v7.heap.size (sv u12.v a7 n7 c7 b7 m7 d7) = w7 at HK HS4 HS5 HS6 HS7 ⊢
 generalize v7.heap.size = p7_ at HS7 ⊢
 go_wp2_with (first | (refine wpList_run rfl (exec_idx81 (k := 0) rfl rfl rfl (by omega)) ?_) | (refine wpList_run rfl (exec_ld39m (xr := xs 0) rfl rfl (HK.out.at_ 0 (by omega))) ?_) | (refine wpList_run rfl (exec_load39 rfl rfl HS7.out.k) ?_))
 refine (merge_any (HK.out.sl 0 (by omega)) (HS7.out.sl) (by have := HFW.out 0 (by omega); omega) (by have := HFW.out 0 (by omega); omega) (by have := hf7; omega) (by have := hf7; omega)).mono ?_
 rintro e v8 ⟨er, mm, hM, a8, n8, c8, b8, m8, d8, rfl, hE, hT, hb⟩
 obtain ⟨rfl, hmm⟩ := HMR.out _ _ hM
 have hmm := hmm.symm
 subst hmm
 have hf8 := HFu012.out _ _ _ _ _ (⟨hE.gl, hT.gl⟩ : SL v8 u012 a8 n8 b8 m8)
 have HSA : Hid (SL v8 u012 a8 n8 b8 m8) := Lib.hid ⟨hE.gl, hT.gl⟩
 have HK1 := Lib.hid (HK.out.below hb)
 have HS41 := Lib.hid (HS4.out.below hb)
 have HS51 := Lib.hid (HS5.out.below hb)
 have HS61 := Lib.hid (HS6.out.below hb)
 have HS71 := Lib.hid (HS7.out.below hb)
 clear hb hE hT hM HK HS4 HS5 HS6 HS7
 go_wp2_with (first | (refine wpList_run rfl (exec_alloc39z HZ.out rfl) ?_) | (refine wpList_stop39 rfl ?_))
 refine ⟨?_⟩
 refine wpList_void rfl rfl (exec_store39 rfl rfl rfl (Blk.new v8 39 _)) ?_
 have hbo := bo_laid v8 39 (sv z none 0 0 none 0 0) (sv u012.v a8 n8 c8 b8 m8 d8)
 have HK := Lib.hid (HK1.out.below hbo.old)
 have HS4 := Lib.hid (HS41.out.below hbo.old)
 have HS5 := Lib.hid (HS51.out.below hbo.old)
 have HS6 := Lib.hid (HS61.out.below hbo.old)
 have HS7 := Lib.hid (HS71.out.below hbo.old)
 have HS8 : Hid (JsW ((v8.alloc (.cells (sv z none 0 0 none 0 0) 39)).setRow v8.heap.size (sv u012.v a8 n8 c8 b8 m8 d8)) v8.heap.size u012 a8 n8 c8 b8 m8 d8) := Lib.hid ⟨hbo.one, HSA.out.below hbo.old⟩
 clear hbo HK1 HSA HS41 HS51 HS61 HS71
 generalize (v8.alloc (.cells (sv z none 0 0 none 0 0) 39)).setRow v8.heap.size (sv u012.v a8 n8 c8 b8 m8 d8) = w8 at HK HS4 HS5 HS6 HS7 HS8 ⊢
 generalize v8.heap.size = p8_ at HS8 ⊢
 go_wp2_with (first | (refine wpList_run rfl (exec_idx81 (k := 0) rfl rfl rfl (by omega)) ?_) | (refine wpList_run rfl (exec_ld39m (xr := xs 0) rfl rfl (HK.out.at_ 0 (by omega))) ?_))
 refine (merge_any (HK.out.sl 0 (by omega)) (HK.out.sl 0 (by omega)) (by have := HFW.out 0 (by omega); omega) (by have := HFW.out 0 (by omega); omega) (by have := HFW.out 0 (by omega); omega) (by have := HFW.out 0 (by omega); omega)).mono ?_
 rintro e v9 ⟨er, mm, hM, a9, n9, c9, b9, m9, d9, rfl, hE, hT, hb⟩
 obtain ⟨rfl, hmm⟩ := HMS.out _ _ hM
 have hmm := hmm.symm
 subst hmm
 have hf9 := HFs0.out _ _ _ _ _ (⟨hE.gl, hT.gl⟩ : SL v9 s0 a9 n9 b9 m9)
 have HSA : Hid (SL v9 s0 a9 n9 b9 m9) := Lib.hid ⟨hE.gl, hT.gl⟩
 have HK1 := Lib.hid (HK.out.below hb)
 have HS41 := Lib.hid (HS4.out.below hb)
 have HS51 := Lib.hid (HS5.out.below hb)
 have HS61 := Lib.hid (HS6.out.below hb)
 have HS71 := Lib.hid (HS7.out.below hb)
 have HS81 := Lib.hid (HS8.out.below hb)
 clear hb hE hT hM HK HS4 HS5 HS6 HS7 HS8
 go_wp2_with (first | (refine wpList_run rfl (exec_alloc39z HZ.out rfl) ?_) | (refine wpList_stop39 rfl ?_))
 refine ⟨?_⟩
 refine wpList_void rfl rfl (exec_store39 rfl rfl rfl (Blk.new v9 39 _)) ?_
 have hbo := bo_laid v9 39 (sv z none 0 0 none 0 0) (sv s0.v a9 n9 c9 b9 m9 d9)
 have HK := Lib.hid (HK1.out.below hbo.old)
 have HS4 := Lib.hid (HS41.out.below hbo.old)
 have HS5 := Lib.hid (HS51.out.below hbo.old)
 have HS6 := Lib.hid (HS61.out.below hbo.old)
 have HS7 := Lib.hid (HS71.out.below hbo.old)
 have HS8 := Lib.hid (HS81.out.below hbo.old)
 have HS9 : Hid (JsW ((v9.alloc (.cells (sv z none 0 0 none 0 0) 39)).setRow v9.heap.size (sv s0.v a9 n9 c9 b9 m9 d9)) v9.heap.size s0 a9 n9 c9 b9 m9 d9) := Lib.hid ⟨hbo.one, HSA.out.below hbo.old⟩
 clear hbo HK1 HSA HS41 HS51 HS61 HS71 HS81
 generalize (v9.alloc (.cells (sv z none 0 0 none 0 0) 39)).setRow v9.heap.size (sv s0.v a9 n9 c9 b9 m9 d9) = w9 at HK HS4 HS5 HS6 HS7 HS8 HS9 ⊢
 generalize v9.heap.size = p9_ at HS9 ⊢
 obtain ⟨x0, hx0⟩ : ∃ x, xs 0 = x := ⟨_, rfl⟩
 obtain ⟨s0', a0, n0, c0, b0, m0, d0⟩ := x0
 obtain rfl : s0' = s0 := by have h := HS0.out; rw [hx0] at h; exact h
 have hf0 := HFW.out 0 (by omega)
 rw [hx0] at hf0
 have HA : Hid (AzW w w9 p5 u01 u012 s0' a0 n0 c0 b0 m0 d0 p4_ a4 n4 c4 b4 m4 d4 p5_ a5 n5 c5 b5 m5 d5 p6_ a6 n6 c6 b6 m6 d6 p8_ a8 n8 c8 b8 m8 d8 p9_ a9 n9 c9 b9 m9 d9) := Lib.hid ⟨HS4.out.k, HS4.out.sl, HS5.out.k, HS5.out.sl, HS6.out.k, HS6.out.sl, HS8.out.k, HS8.out.sl, HS9.out.k, HS9.out.sl, by have h := HK.out.at_ 0 (by omega); rw [hx0] at h; exact h, by have h := HK.out.sl 0 (by omega); rw [hx0] at h; exact h, HK.out.old⟩
 have hn0 : n0 ≤ 40 := hf0.1
 have hm0 : m0 ≤ 40 := hf0.2
 clear hx0 hf0 HS4 HS5 HS6 HS7 HS8 HS9 HK
 go_wp2_with fail
 refine wp_region_held_drew (S := fun w' => AzW w w' p5 u01 u012 s0' a0 n0 c0 b0 m0 d0 p4_ a4 n4 c4 b4 m4 d4 p5_ a5 n5 c5 b5 m5 d5 p6_ a6 n6 c6 b6 m6 d6 p8_ a8 n8 c8 b8 m8 d8 p9_ a9 n9 c9 b9 m9 d9) (by kernel_rfl) HA.out.drew (fun hS => ?_)
 refine held_tk 0 116 (.agg (sv u01.v a4 n4 c4 b4 m4 d4)) rfl rfl (by kernel_rfl) (fun _ _ _ h => h) (fun _ h => exec_load39 rfl rfl h.k4) hS ?_
 simp only [Act.put, ap1, ap2, ap3]
 refine held_tk 2 118 (.agg (sv u01.v a5 n5 c5 b5 m5 d5)) rfl rfl (by kernel_rfl) (fun _ _ _ h => h) (fun _ h => exec_load39 rfl rfl h.k5) hS ?_
 simp only [Act.put, ap1, ap2, ap3]
 refine held_callP 1 117 20 #[.agg (sv u01.v a4 n4 c4 b4 m4 d4)] rfl (by kernel_rfl) rfl (by kernel_rfl) (by kernel_rfl) (ours_any hS.l4 (by omega) (by omega)) (fun e x1 hP => ?_)
 obtain ⟨e1, f1, g1, h1, rfl, hlo, hb⟩ := hP
 refine ⟨_, rfl, hS.below hb, fun hS => ?_⟩
 simp only [Act.put, ap1, ap2, ap3]
 refine held_callP 3 119 20 #[.agg (sv u01.v a5 n5 c5 b5 m5 d5)] rfl (by kernel_rfl) rfl (by kernel_rfl) (by kernel_rfl) (ours_any hS.l5 (by omega) (by omega)) (fun e x2 hP => ?_)
 obtain ⟨e2, f2, g2, h2, rfl, hlp, hb⟩ := hP
 refine ⟨_, rfl, hS.below hb, fun hS => ?_⟩
 simp only [Act.put, ap1, ap2, ap3]
 have hlo := hlo.below hb
 refine held_callP 4 120 19 #[.agg (sv u01.v e1 n4 f1 g1 m4 h1), .agg (sv u01.v e2 n5 f2 g2 m5 h2)] rfl (by kernel_rfl) rfl (by kernel_rfl) (by kernel_rfl) (same_any hlo hlp (by omega) (by omega)) (fun e x3 hP => ?_)
 obtain ⟨r, rfl, hr, hb⟩ := hP
 obtain rfl : r = true := hr.2 ⟨rfl, rfl, rfl⟩
 clear hlo hlp hr
 refine ⟨_, rfl, hS.below hb, fun hS => ?_⟩
 simp only [Act.put, ap1, ap2, ap3]
 refine held_tk 5 121 (.bool true) rfl rfl (by kernel_rfl) (fun _ _ _ h => h) (fun _ _ => rfl) hS ?_
 simp only [Act.put, ap1, ap2, ap3]
 refine held_tk 6 122 (.agg (sv u012.v a6 n6 c6 b6 m6 d6)) rfl rfl (by kernel_rfl) (fun _ _ _ h => h) (fun _ h => exec_load39 rfl rfl h.k6) hS ?_
 simp only [Act.put, ap1, ap2, ap3]
 refine held_tk 8 124 (.agg (sv u012.v a8 n8 c8 b8 m8 d8)) rfl rfl (by kernel_rfl) (fun _ _ _ h => h) (fun _ h => exec_load39 rfl rfl h.k8) hS ?_
 simp only [Act.put, ap1, ap2, ap3]
 refine held_callP 7 123 20 #[.agg (sv u012.v a6 n6 c6 b6 m6 d6)] rfl (by kernel_rfl) rfl (by kernel_rfl) (by kernel_rfl) (ours_any hS.l6 (by omega) (by omega)) (fun e x4 hP => ?_)
 obtain ⟨e3, f3, g3, h3, rfl, hlo, hb⟩ := hP
 refine ⟨_, rfl, hS.below hb, fun hS => ?_⟩
 simp only [Act.put, ap1, ap2, ap3]
 refine held_callP 9 125 20 #[.agg (sv u012.v a8 n8 c8 b8 m8 d8)] rfl (by kernel_rfl) rfl (by kernel_rfl) (by kernel_rfl) (ours_any hS.l8 (by omega) (by omega)) (fun e x5 hP => ?_)
 obtain ⟨e4, f4, g4, h4, rfl, hlp, hb⟩ := hP
 refine ⟨_, rfl, hS.below hb, fun hS => ?_⟩
 simp only [Act.put, ap1, ap2, ap3]
 have hlo := hlo.below hb
 refine held_callP 10 126 19 #[.agg (sv u012.v e3 n6 f3 g3 m6 h3), .agg (sv u012.v e4 n8 f4 g4 m8 h4)] rfl (by kernel_rfl) rfl (by kernel_rfl) (by kernel_rfl) (same_any hlo hlp (by omega) (by omega)) (fun e x6 hP => ?_)
 obtain ⟨r, rfl, hr, hb⟩ := hP
 obtain rfl : r = true := hr.2 ⟨rfl, rfl, rfl⟩
 clear hlo hlp hr
 refine ⟨_, rfl, hS.below hb, fun hS => ?_⟩
 simp only [Act.put, ap1, ap2, ap3]
 refine held_tk 11 127 (.bool true) rfl rfl (by kernel_rfl) (fun _ _ _ h => h) (fun _ _ => rfl) hS ?_
 simp only [Act.put, ap1, ap2, ap3]
 refine held_tk 12 128 (.bool true) rfl rfl (by kernel_rfl) (fun _ _ _ h => h) (fun _ _ => rfl) hS ?_
 simp only [Act.put, ap1, ap2, ap3]
 refine held_tk 13 129 (.agg (sv s0'.v a9 n9 c9 b9 m9 d9)) rfl rfl (by kernel_rfl) (fun _ _ _ h => h) (fun _ h => exec_load39 rfl rfl h.k9) hS ?_
 simp only [Act.put, ap1, ap2, ap3]
 refine held_tk 15 131 (.pointer (some ⟨p5, 0 + 0 * 18, none⟩)) rfl rfl (by kernel_rfl) (fun _ _ _ h => h) (fun _ _ => exec_idx81 (k := 0) rfl rfl rfl (by omega)) hS ?_
 simp only [Act.put, ap1, ap2, ap3]
 refine held_tk 16 132 (.agg (sv s0'.v a0 n0 c0 b0 m0 d0)) rfl rfl (by kernel_rfl) (fun _ _ _ h => h) (fun _ h => exec_ld39v rfl rfl h.r0) hS ?_
 simp only [Act.put, ap1, ap2, ap3]
 refine held_callP 14 130 20 #[.agg (sv s0'.v a9 n9 c9 b9 m9 d9)] rfl (by kernel_rfl) rfl (by kernel_rfl) (by kernel_rfl) (ours_any hS.l9 (by omega) (by omega)) (fun e x7 hP => ?_)
 obtain ⟨e5, f5, g5, h5, rfl, hlo, hb⟩ := hP
 refine ⟨_, rfl, hS.below hb, fun hS => ?_⟩
 simp only [Act.put, ap1, ap2, ap3]
 refine held_callP 17 133 20 #[.agg (sv s0'.v a0 n0 c0 b0 m0 d0)] rfl (by kernel_rfl) rfl (by kernel_rfl) (by kernel_rfl) (ours_any hS.l0 (by omega) (by omega)) (fun e x8 hP => ?_)
 obtain ⟨e6, f6, g6, h6, rfl, hlp, hb⟩ := hP
 refine ⟨_, rfl, hS.below hb, fun hS => ?_⟩
 simp only [Act.put, ap1, ap2, ap3]
 have hlo := hlo.below hb
 refine held_callP 18 134 19 #[.agg (sv s0'.v e5 n9 f5 g5 m9 h5), .agg (sv s0'.v e6 n0 f6 g6 m0 h6)] rfl (by kernel_rfl) rfl (by kernel_rfl) (by kernel_rfl) (same_any hlo hlp (by omega) (by omega)) (fun e x9 hP => ?_)
 obtain ⟨r, rfl, hr, hb⟩ := hP
 obtain rfl : r = true := hr.2 ⟨rfl, rfl, rfl⟩
 clear hlo hlp hr
 refine ⟨_, rfl, hS.below hb, fun hS => ?_⟩
 simp only [Act.put, ap1, ap2, ap3]
 refine held_tk 19 135 (.bool true) rfl rfl (by kernel_rfl) (fun _ _ _ h => h) (fun _ _ => rfl) hS ?_
 simp only [Act.put, ap1, ap2, ap3]
 refine held_tk 20 4 (.bool true) rfl rfl (by kernel_rfl) (fun _ _ _ h => h) (fun _ _ => rfl) hS ?_
 simp only [Act.put, ap1, ap2, ap3]
 have HS9 := Lib.hid hS
 clear hS
 refine wpAnyH_done (by kernel_rfl) ?_ _
 go_wp2_with fail
 go_ret
 exact ⟨rfl, HS9.out.old⟩
end Go.Proofs.YtnekpgmgnepdoaaGreat
end
section
namespace Go.Proofs.YtnekpgmgnepdoaaGreat
open Go.RowKit
theorem cells80' : Tryz.prog.cellsOf 80 = 48 := by kernel_rfl
set_option maxRecDepth 100000 in
theorem okWide_tri {W : World} {r : Reach} {b : Nat} {v : Value} (h : Value.okWide Tryz.prog W r b 80 v) : ∃ cs, v = .agg cs ∧ cs.size = 48 := by
 simp only [Value.okWide, und80] at h
 obtain ⟨cs, h1, h2, _⟩ := h
 exact ⟨cs, h1, h2.trans cells80'⟩
set_option maxRecDepth 100000 in
theorem tri_of {H : Type} {enc : TypeId × Value → H} {W : World} {r : Reach} {b : Nat} {v : Value} {d : DataW H} {p : List MemPlace} (hv : Value.okWide Tryz.prog W r b 80 v)
  (h : DataW.Trod enc Tryz.prog W 0 (fun _ => true) true 80 v d p) : ∃ vs : Nat → V, v = .agg (three fun j => (vs j).cs) := by
 obtain ⟨cs, rfl, hs⟩ := okWide_tri hv
 obtain ⟨fuel, hf⟩ := h
 obtain ⟨ys, n, _, _, hlen, hyl, he⟩ := DataW.trod_array und80 hf
 have hL : (Value.cells (.agg cs)) = cs := rfl
 obtain ⟨l, rfl⟩ : ∃ l : List Value, cs = l.toArray := ⟨cs.toList, by simp⟩
 have hl : l.length = 48 := by simpa using hs
 have hall : ∀ i, i < 3 → ∃ a : V, (l.drop (i * 16)).take 16 = a.cs := fun i hi => by
  have h1 := he i hi
  rw [cells24'] at h1
  have h2 : ys[i]? = some ys[i] := List.getElem?_eq_getElem (by omega)
  rw [h2] at h1
  refine vec_cells ?_ h1
  simp
  omega
 obtain ⟨a0, h0⟩ := hall 0 (by omega)
 obtain ⟨a1, h1⟩ := hall 1 (by omega)
 obtain ⟨a2, h2⟩ := hall 2 (by omega)
 refine ⟨fun j => if j = 0 then a0 else if j = 1 then a1 else a2, congrArg Value.agg ?_⟩
 unfold three
 congr 1
 have e : l = (l.drop (0 * 16)).take 16 ++ ((l.drop (1 * 16)).take 16 ++ (l.drop (2 * 16)).take 16) := by
  apply List.ext_getElem?
  intro i
  by_cases c0 : i < 16
  ·rw [List.getElem?_append_left (by simp; omega), List.getElem?_take_of_lt c0]; simp
  ·rw [List.getElem?_append_right (by simp; omega)]
   by_cases c1 : i < 32
   ·rw [List.getElem?_append_left (by simp; omega), List.getElem?_take_of_lt (by simp; omega), List.getElem?_drop]
    congr 1; simp; omega
   ·rw [List.getElem?_append_right (by simp; omega)]
    by_cases c2 : i < 48
    ·rw [List.getElem?_take_of_lt (by simp; omega), List.getElem?_drop]
     congr 1; simp; omega
    ·rw [List.getElem?_eq_none (by omega), List.getElem?_eq_none (by simp; omega)]
 rw [h0, h1, h2] at e
 simpa using e
end Go.Proofs.YtnekpgmgnepdoaaGreat
end
