import Derived.Test.YtnekpgmgnepdoaaGreatXal
import Derived.Test.YtnekpgmgnepdoaaGreatXap
import Derived.Test.YtnekpgmgnepdoaaGreatXaq
section
namespace Go.Proofs.YtnekpgmgnepdoaaGreat
open Go.RowKit
theorem flat_set1 {size : Nat} : ∀ {vs : List (List Value)} {k j : Nat} {v : List Value} {u : Value}, (∀ v ∈ vs, v.length = size) → vs[k]? = some v → j < size → vs.flatten.set (k * size + j) u = (vs.set k (v.set j u)).flatten
 | [], k, _, _, _, _, h, _ => by simp at h
 | x :: vs, 0, j, v, u, hv, h, hj => by
  obtain rfl : x = v := by simpa using h
  have hx := hv x List.mem_cons_self
  rw [List.flatten_cons, List.set_cons_zero, List.flatten_cons, Nat.zero_mul, Nat.zero_add, List.set_append_left _ _ (by omega)]
 | x :: vs, k + 1, j, v, u, hv, h, hj => by
  have hx := hv x List.mem_cons_self
  rw [List.flatten_cons, List.set_cons_succ, List.flatten_cons, List.set_append_right _ _ (by rw [hx, Nat.add_mul]; omega), hx, show (k + 1) * size + j - size = k * size + j by rw [Nat.add_mul]; omega, flat_set1 (fun v hv' => hv v (List.mem_cons_of_mem _ hv')) (by simpa using h) hj]
theorem Rw.set1 {W : World} {e size g : Nat} {vs : List (List Value)} (h : Rw W e size g vs) {k j : Nat} {v : List Value} {u : Value} (hv : vs[k]? = some v) (hj : j < size) : Rw (W.setCell ⟨g, 0 + k * size + j, none⟩ u) e size g (vs.set k (v.set j u)) := by
 refine ⟨?_, fun x hx => ?_⟩
 ·have := h.blk.set (0 + k * size + j) u
  rw [Nat.zero_add] at this ⊢
  rw [← flat_set1 h.each hv hj]
  simpa using this
 ·rcases List.mem_or_eq_of_mem_set hx with hx | rfl
  ·exact h.each x hx
  ·rw [List.length_set]; exact h.each v (List.mem_of_getElem? hv)
theorem exec_max {ev : Operand → Value} {q : Oper} {w : World} {x y : Operand} {a b : Nat} (ho : q.op = .call { callee := .builtin .max, args := #[x, y], argTypes := #[22, 22] }) (hx : ev x = .int .u32 (a : Int)) (hy : ev y = .int .u32 (b : Int)) : (execOp ev q).run Tryz.prog w = .ok (.value (.int .u32 ((max a b : Nat) : Int))) w := by
 have e : ((max a b : Nat) : Int) = max (a : Int) (b : Int) := by omega
 rw [e]
 unfold execOp
 simp only [ho]
 go_simp
theorem exec_bldL {ev : Operand → Value} {q : Oper} {w : World} {x y : Operand} {t : La} (ho : q.op = .build 96 #[(0, x), (1, y)]) (hx : ev x = .int .u16 (t.c : Int)) (hy : ev y = .int .u32 (t.t : Int)) : (execOp ev q).run Tryz.prog w = .ok (.value (.agg t.arr)) w := by
 have hm : (#[((0 : Nat), x), (1, y)]).map (fun (i, x) => (i, ev x)) = #[(0, .int .u16 (t.c : Int)), (1, .int .u32 (t.t : Int))] := by simp [hx, hy]
 have hb : (Instr.build 96 #[(0, .int .u16 (t.c : Int)), (1, .int .u32 (t.t : Int))]).run Tryz.prog w = .ok (.agg t.arr) w := run_build w 96 _ _ (by kernel_rfl)
 unfold execOp
 simp only [ho, hm, Sem.run_bind, hb, Result.andThen_ok]
 rfl
theorem exec_st22 {ev : Operand → Value} {q : Oper} {w : World} {x y : Operand} {g o t n : Nat} {cs : Array Value} (ho : q.op = .store 22 x y) (hx : ev x = .pointer (some ⟨g, o, none⟩)) (hy : ev y = .int .u32 (n : Int)) (h : Blk w g t cs) (hlt : o < cs.size) : (execOp ev q).run Tryz.prog w = .ok .skip (w.setCell ⟨g, o, none⟩ (.int .u32 (n : Int))) := by
 have hc : w.cell? ⟨g, o, none⟩ = some cs[o] := by rw [h.cell]; exact Array.getElem?_eq_getElem hlt
 have hf : w.frozen? ⟨g, o, none⟩ = false := h.frozen o
 have hu := Tryz.underlying22
 generalize cs[o] = old at hc
 unfold execOp
 simp only [ho, hx, hy]
 go_simp
theorem cells_take (l : List La) (k : Nat) (x : La) : (cellsL l).take k ++ x.cs :: (cellsL l).drop k = cellsL (l.take k ++ x :: l.drop k) := by simp [cellsL]
theorem cells_takeE (l : List En) (k : Nat) (x : En) : (cellsE l).take k ++ x.cs :: (cellsE l).drop k = cellsE (l.take k ++ x :: l.drop k) := by simp [cellsE]
theorem tkIx_le (l : List La) (c : Nat) : tkIx l c ≤ l.length := List.countP_le_length
set_option maxRecDepth 100000 in
set_option maxHeartbeats 4000000 in
theorem applyTick_any {a : Option Addr} {n cap : Nat} {l : List La} {w : World} (hl : LL w a n l) (hn : n < 300000) (hup : l.Pairwise fun a b => a.c < b.c) (o : O) : Calls Tryz.prog 43 #[.slice a n cap, .agg o.arr] w (OwnsP 96 2 (cellsL (ticked (tickO o) l)) w) := by
 have HL := Lib.hid hl
 have hlen := hl.len'
 have HLEN := Lib.hid hlen
 have HUP := Lib.hid hup
 have hkl := tkIx_le l o.c
 have hb1 := fun (o : O) w => box33 o w
 have HP := Lib.hid (ow_new w o)
 clear hl hup
 go_enter Tryz.func43, Tryz.ntmps43
 go_wp2_with fail
 clear hb1
 generalize w.alloc (.cells o.arr 33) = w0 at HP
 refine (cloneL_any (cap := cap) (HL.out.below HP.out.old) (by omega)).mono ?_
 rintro e w1 ⟨a1, cap1, rfl, ho1, hb⟩
 rw [show (cellsL l).length = n by simp [cellsL, hlen]] at ho1 ⊢
 have HP1 := Lib.hid (HP.out.below hb)
 have HO1 := Lib.hid ho1
 have hB : w.heap.size ≤ w0.heap.size := HP.out.old.size
 have HB := Lib.hid hB
 have HPW : Hid (w.heap.size < w0.heap.size) := Lib.hid HP.out.one.lt
 obtain ⟨p, hp⟩ : ∃ p, w.heap.size = p := ⟨_, rfl⟩
 have HPP := Lib.hid hp
 have HOP : Hid (Blk w1 p 33 o.arr) := Lib.hid (by rw [← hp]; exact HP1.out.one)
 have HOLD := Lib.hid HP1.out.old
 have HWS : Hid (w0.heap.size ≤ w1.heap.size) := Lib.hid hb.size
 rw [hp]
 clear ho1 hb hB hp HP HP1 HL hlen
 have c3 := oc3 HOP.out
 go_wp2_with fail
 clear c3
 refine (tickIndex_any HO1.out.gl (by omega) HUP.out o.c).mono ?_
 rintro e w2 ⟨rfl, hg⟩
 have HO2 := Lib.hid (HO1.out.below hg.below)
 have HOP2 := Lib.hid (HOP.out.grew hg)
 have HB2 : Hid (Below w.heap.size w w2) := Lib.hid (HOLD.out.trans (hg.below.mono HOLD.out.size))
 have HSZ : Hid (w0.heap.size ≤ w2.heap.size) := Lib.hid (by
  rcases HO2.out.row.2 with h | ⟨g, c, cur, hv, hgB, hgb, _⟩
  ·have h1 := HOP2.out.lt
   have h2 := hg.below.size
   exact Nat.le_trans HWS.out h2
  ·have := (Array.getElem?_eq_some_iff.1 hgb).1; omega)
 clear hg HO1 HOP HOLD
 obtain ⟨k, hk⟩ : ∃ k, tkIx l o.c = k := ⟨_, rfl⟩
 have HK := Lib.hid hk
 rw [hk] at hkl
 rw [hk]
 have hkn' : k ≤ n := by have := HLEN.out; omega
 clear hk hkl
 cases hf : (tkOf l o.c).isSome
 ·have HF : Hid (∀ y ∈ l, y.c ≠ (tickO o).c) := Lib.hid (fun y hy e => by
   have := (tkOf_some (l := l) (c := o.c)).2 ⟨y, hy, e⟩
   rw [hf] at this
   cases this)
  have HT : Hid ((cellsL l).take k ++ (tickO o).cs :: (cellsL l).drop k = cellsL (ticked (tickO o) l)) := Lib.hid (by
   rw [cells_take, ticked_new HUP.out HF.out (k := k) HK.out])
  clear hf
  have c3 := oc3 HOP2.out
  have c6 := oc6 HOP2.out
  go_wp2_with (first | (refine wpList_run rfl (exec_bldL (t := tickO o) rfl rfl rfl) ?_) | (refine wpList_run rfl (exec_bs96 (p := tickO o) rfl rfl) ?_))
  refine (insL_any (B := w0.heap.size) (x := tickO o) (HO2.out.below (below_one w2 _)) (cellsL_one l) (Blk.new w2 96 (tickO o).arr) (fun ad e => Nat.ne_of_lt (HO2.out.lt ad e).2) hkn' (by omega) (by have := HSZ.out; simp; omega)).mono ?_
  rintro e w3 ⟨a3, cap3, rfl, ho3, hk3, hl3⟩
  rw [HT.out] at ho3 ⊢
  have HE : Hid (OwnsP 96 2 (cellsL (ticked (tickO o) l)) w (.returned (.slice a3 (cellsL (ticked (tickO o) l)).length cap3)) w3) := Lib.hid ⟨a3, cap3, rfl, ho3.mono HB.out, by
   have h1 : Below w.heap.size w (w2.alloc (.cells (tickO o).arr 96)) := HB2.out.trans ((below_one w2 _).mono HB2.out.size)
   exact h1.trans (hk3.below h1.size (fun j ⟨ad, had, e⟩ => by rw [e]; exact Nat.le_trans HB.out (HO2.out.lt ad had).1))⟩
  generalize (cellsL (ticked (tickO o) l)).length = N at HE
  clear ho3 hk3 hl3 c3 c6
  go_wp2_with fail
  go_ret
  exact HE.out
 ·have hex : ∃ y ∈ l, y.c = (tickO o).c := (tkOf_some (l := l) (c := o.c)).1 hf
  obtain ⟨y, hy, hyc, hset⟩ := ticked_old (x := tickO o) HUP.out hex (k := k) HK.out
  have hkn : k < n := by have := (List.getElem?_eq_some_iff.1 hy).1; have := HLEN.out; omega
  obtain ⟨g, us, rfl, hrw, hcap, hBg, hcm⟩ : ∃ g us, a1 = some ⟨g, 0, none⟩ ∧ Rw w2 96 2 g (cellsL l ++ us) ∧ n + us.length = cap1 ∧ w0.heap.size ≤ g ∧ cap1 ≤ maxLen := by
   rcases HO2.out.rw' (by decide) with ⟨_, h0, _⟩ | h
   ·omega
   ·exact h
  have hat : (cellsL l ++ us)[k]? = some y.cs := by
   rw [List.getElem?_append_left (by simp [cellsL]; have := HLEN.out; omega)]
   simp [cellsL, hy]
  have HC : Hid (w2.cell? ⟨g, 0 + k * 2 + 1, none⟩ = some (.int .u32 (y.t : Int))) := Lib.hid (hrw.at hat 1 _ rfl)
  have HR2 : Hid (Rw (w2.drew.setCell ⟨g, 0 + k * 2 + 1, none⟩ (.int .u32 ((max y.t o.t : Nat) : Int))) 96 2 g ((cellsL l ++ us).set k (y.cs.set 1 (.int .u32 ((max y.t o.t : Nat) : Int))))) := Lib.hid ((hrw.below (drew_below w2)).set1 hat (by decide))
  have HS : Hid ((((cellsL l ++ us).set k (y.cs.set 1 (.int .u32 ((max y.t o.t : Nat) : Int)))).take n) = cellsL (ticked (tickO o) l)) := Lib.hid (by
   rw [← hset ⟨o.c, max y.t o.t, o.hc, by have := y.ht; have := o.ht; omega⟩ rfl rfl]
   rw [List.set_append_left _ _ (by simp [cellsL]; have := HLEN.out; omega), List.take_append_of_le_length (by simp [cellsL]; have := HLEN.out; omega), List.take_of_length_le (by simp [cellsL]; have := HLEN.out; omega)]
   unfold cellsL
   rw [List.map_set]
   congr 1
   show [Value.int .u16 (y.c : Int), Value.int .u32 ((max y.t o.t : Nat) : Int)] = [Value.int .u16 (o.c : Int), Value.int .u32 ((max y.t o.t : Nat) : Int)]
   rw [show y.c = o.c from hyc])
  have HRW := Lib.hid hrw
  have HLT : Hid (0 + k * 2 + 1 < (cellsL l ++ us).flatten.toArray.size) := Lib.hid (by
   have := flat_len hrw.each
   have h2 := HLEN.out
   rw [List.size_toArray, this]
   simp [cellsL]
   omega)
  have HBG := Lib.hid (show n + us.length = cap1 ∧ w0.heap.size ≤ g ∧ cap1 ≤ maxLen from ⟨hcap, hBg, hcm⟩)
  have HNE : Hid (¬ p = g) := Lib.hid (by have := HPP.out; have := HPW.out; omega)
  have yt := y.ht
  clear hf hex hset hy hyc hat hrw hcap hBg hcm
  have HE : Hid (OwnsP 96 2 (cellsL (ticked (tickO o) l)) w (.returned (.slice (some ⟨g, 0, none⟩) n cap1)) (w2.drew.setCell ⟨g, 0 + k * 2 + 1, none⟩ (.int .u32 ((max y.t o.t : Nat) : Int)))) := by
   obtain ⟨h1, h2, h3⟩ := HBG.out
   have hl := HLEN.out
   have ho := HR2.out.own (B := w.heap.size) (n := n) (Nat.le_trans HB.out h2) (by omega) (by simp [cellsL]; omega) h3
   rw [HS.out] at ho
   have hlen2 : (cellsL (ticked (tickO o) l)).length = n := by have := ho.len; exact this
   exact Lib.hid ⟨_, cap1, by rw [hlen2], by rw [hlen2]; exact ho, (HB2.out.drew).trans ((Kept.setCell w2.drew ⟨g, 0 + k * 2 + 1, none⟩ _).below HB2.out.size (fun j e => by rw [e]; exact Nat.le_trans HB.out h2))⟩
  go_wp2_with fail
  refine wp_region_held_drew (S := fun w' => Blk w' p 33 o.arr) (by kernel_rfl) (HOP2.out.below (drew_below _)) (fun hS => ?_)
  refine held_tk 0 28 (.slice (some ⟨g,0,none⟩) n cap1) rfl rfl (by kernel_rfl) (fun _ _ _ h=>h) (fun _ _=>rfl) hS ?_;simp only [Act.put,ap1,ap2,ap3]
  refine held_tk 1 29 (.int .i64 (k : Int)) rfl rfl (by kernel_rfl) (fun _ _ _ h=>h) (fun _ _=>rfl) hS ?_;simp only [Act.put,ap1,ap2,ap3]
  refine held_tk 2 30 (.slice (some ⟨g,0,none⟩) n cap1) rfl rfl (by kernel_rfl) (fun _ _ _ h=>h) (fun _ _=>rfl) hS ?_;simp only [Act.put,ap1,ap2,ap3]
  refine held_tk 3 31 (.int .i64 (k : Int)) rfl rfl (by kernel_rfl) (fun _ _ _ h=>h) (fun _ _=>rfl) hS ?_;simp only [Act.put,ap1,ap2,ap3]
  refine held_tk 4 32 (.pointer (some ⟨g,0 + k * 2,none⟩)) rfl rfl (by kernel_rfl) (fun _ _ _ h=>h) (fun _ _=>exec_idx96 (i:=k) rfl rfl rfl rfl hkn) hS ?_;simp only [Act.put,ap1,ap2,ap3]
  refine held_tk 5 33 (.pointer (some ⟨g,0 + k * 2 + 1,none⟩)) rfl rfl (by kernel_rfl) (fun _ _ _ h=>h) (fun _ _=>(by kernel_rfl)) hS ?_;simp only [Act.put,ap1,ap2,ap3]
  refine held_tk 7 35 (.pointer (some ⟨p,6,none⟩)) rfl rfl (by kernel_rfl) (fun _ _ _ h=>h) (fun _ _=>(by kernel_rfl)) hS ?_;simp only [Act.put,ap1,ap2,ap3]
  refine held_tk 8 36 (.int .u32 (o.t : Int)) rfl rfl (by kernel_rfl) (fun _ _ _ h=>h) (fun _ h=>exec_cell rfl rfl (load_cell (by kernel_rfl) (oc6 h))) hS ?_;simp only [Act.put,ap1,ap2,ap3]
  refine held_exec 6 34 (.int .u32 (y.t : Int)) rfl rfl (by kernel_rfl) (by kernel_rfl) (exec_cell rfl rfl (load_cell (by kernel_rfl) HC.out)) hS ?_;simp only [Act.put,ap1,ap2,ap3]
  refine held_tk 9 37 (.int .u32 ((max y.t o.t : Nat) : Int)) rfl rfl (by kernel_rfl) (fun _ _ _ h=>h) (fun _ _=>exec_max rfl rfl rfl) hS ?_;simp only [Act.put,ap1,ap2,ap3]
  refine held_tk 10 38 (.pointer (some ⟨g,0 + k * 2,none⟩)) rfl rfl (by kernel_rfl) (fun _ _ _ h=>h) (fun _ _=>exec_idx96 (i:=k) rfl rfl rfl rfl hkn) hS ?_;simp only [Act.put,ap1,ap2,ap3]
  refine held_tk 11 39 (.pointer (some ⟨g,0 + k * 2 + 1,none⟩)) rfl rfl (by kernel_rfl) (fun _ _ _ h=>h) (fun _ _=>(by kernel_rfl)) hS ?_;simp only [Act.put,ap1,ap2,ap3]
  refine held_void 12 rfl rfl (by kernel_rfl) (by kernel_rfl) (exec_st22 rfl rfl rfl (HRW.out.below (drew_below w2)).blk HLT.out) (hS.kept (Kept.setCell w2.drew ⟨g,0 + k * 2 + 1,none⟩ _) HNE.out) ?_
  clear hS
  generalize w2.drew.setCell ⟨g, 0 + k * 2 + 1, none⟩ (.int .u32 ((max y.t o.t : Nat) : Int)) = w4 at HE
  refine wpAnyH_done (by kernel_rfl) ?_ _
  go_wp2_with fail
  go_ret
  exact HE.out
end Go.Proofs.YtnekpgmgnepdoaaGreat
end
section
namespace Go.Proofs.YtnekpgmgnepdoaaGreat
open Go.RowKit
theorem mono_ord {l : List En} (h : l.Pairwise En.Ahead) (x : En) : Mono l fun y => En.ord y x := fun i j a b hij ha hb hn => by
 simp only at hn ⊢
 rw [En.ord_neg] at hn ⊢
 by_cases e : i = j
 ·subst e
  rw [ha] at hb
  cases hb
  exact hn
 ·exact (ahead_get h (by omega) ha hb).trans hn
theorem exec_bldE {ev : Operand → Value} {q : Oper} {w : World} {x0 x1 x2 x3 x4 x5 : Operand} {e : En} (ho : q.op = .build 72 #[(0, x0), (1, x1), (2, x2), (3, x3), (4, x4), (5, x5)]) (h0 : ev x0 = .int .u16 (e.c : Int)) (h1 : ev x1 = .int .u16 (e.i : Int)) (h2 : ev x2 = .int .u16 (e.q : Int)) (h3 : ev x3 = .int .u8 (e.k : Int)) (h4 : ev x4 = dotV e.r e.s) (h5 : ev x5 = .int .u64 (e.n : Int)) : (execOp ev q).run Tryz.prog w = .ok (.value (.agg e.arr)) w := by
 have hm : (#[((0 : Nat), x0), (1, x1), (2, x2), (3, x3), (4, x4), (5, x5)]).map (fun (i, x) => (i, ev x)) = #[(0, .int .u16 (e.c : Int)), (1, .int .u16 (e.i : Int)), (2, .int .u16 (e.q : Int)), (3, .int .u8 (e.k : Int)), (4, dotV e.r e.s), (5, .int .u64 (e.n : Int))] := by simp [h0, h1, h2, h3, h4, h5]
 have hb : (Instr.build 72 #[(0, .int .u16 (e.c : Int)), (1, .int .u16 (e.i : Int)), (2, .int .u16 (e.q : Int)), (3, .int .u8 (e.k : Int)), (4, dotV e.r e.s), (5, .int .u64 (e.n : Int))]).run Tryz.prog w = .ok (.agg e.arr) w := run_build w 72 _ _ (by kernel_rfl)
 unfold execOp
 simp only [ho, hm, Sem.run_bind, hb, Result.andThen_ok]
 rfl
set_option maxRecDepth 100000 in
set_option maxHeartbeats 8000000 in
theorem applyEntries_any {a : Option Addr} {n cap : Nat} {l : List En} {w : World} (hl : EL w a n l) (hn : n < 300000) (hs : l.Pairwise En.Ahead) (o : O) (hno : ∀ y ∈ l, ¬ (y.r = o.r ∧ y.s = o.s)) (hly : o.laysB = true ↔ ¬ o.k = 3 ∧ ¬ o.k = 5) : Calls Tryz.prog 42 #[.slice a n cap, .agg o.arr] w (OwnsP 72 7 (cellsE (applyE l o)) w) := by
 have HL := Lib.hid hl
 have hlen := hl.len'
 have HLS : Hid ((leftE l o).Pairwise En.Ahead) := Lib.hid (hs.filter _)
 have HNO := Lib.hid hno
 have HLY := Lib.hid hly
 have hn2 : (leftE l o).length ≤ n := by rw [← hlen]; exact List.length_filter_le _ _
 have hb1 := fun (o : O) w => box33 o w
 have HP := Lib.hid (ow_new w o)
 obtain ⟨zo, hzo⟩ : ∃ z, En.zero = z := ⟨_, rfl⟩
 have HZO := Lib.hid hzo
 clear hl hs hno hly hzo
 go_enter Tryz.func42, Tryz.ntmps42
 go_wp2_with fail
 clear hb1
 generalize w.alloc (.cells o.arr 33) = w0 at HP
 refine (cloneE_any (cap := cap) (HL.out.below HP.out.old) (by omega)).mono ?_
 rintro e w1 ⟨a1, cap1, rfl, ho1, hb⟩
 rw [show (cellsE l).length = n by simp [cellsE, hlen]] at ho1 ⊢
 have HP1 := Lib.hid (HP.out.below hb)
 have HO1 := Lib.hid ho1
 have HB : Hid (w.heap.size ≤ w0.heap.size) := Lib.hid HP.out.old.size
 have HPW : Hid (w.heap.size < w0.heap.size) := Lib.hid HP.out.one.lt
 have HS1 : Hid (w0.heap.size ≤ w1.heap.size) := Lib.hid hb.size
 obtain ⟨p, hp⟩ : ∃ p, w.heap.size = p := ⟨_, rfl⟩
 have HPP := Lib.hid hp
 have HOP : Hid (Blk w1 p 33 o.arr) := Lib.hid (by rw [← hp]; exact HP1.out.one)
 have HOLD := Lib.hid HP1.out.old
 rw [hp]
 clear ho1 hb hp HP HP1 HL hlen
 go_wp2_with fail
 refine (del_any HO1.out HOP.out (fun ad e => by have := (HO1.out.lt ad e).1; have := HPP.out; have := HPW.out; omega) (by omega)).mono ?_
 rintro e w2 ⟨rfl, ho2, hk2⟩
 have HAT : Hid (∀ k, At a1 k → w0.heap.size ≤ k) := Lib.hid (fun k ⟨ad, had, e⟩ => by rw [e]; exact (HO1.out.lt ad had).1)
 obtain ⟨n2, hn3⟩ : ∃ n2, (leftE l o).length = n2 := ⟨_, rfl⟩
 have HN2 := Lib.hid hn3
 rw [hn3] at ho2 hn2 ⊢
 have HO2 := Lib.hid ho2
 have HOP2 : Hid (Blk w2 p 33 o.arr) := Lib.hid (HOP.out.kept hk2 (fun h => by have := HAT.out _ h; have := HPP.out; have := HPW.out; omega))
 have HB2 : Hid (Below w.heap.size w w2) := Lib.hid (HOLD.out.trans (hk2.below HOLD.out.size (fun k hk => Nat.le_trans HB.out (HAT.out k hk))))
 have HS2 : Hid (w0.heap.size ≤ w2.heap.size) := Lib.hid (Nat.le_trans HS1.out hk2.size)
 clear hn3 ho2 hk2 HO1 HOP HOLD
 have c2 := oc2 HOP2.out
 have HEL : Hid (¬ (¬ o.k = 3 ∧ ¬ o.k = 5) → OwnsP 72 7 (cellsE (applyE l o)) w (.returned (.slice a1 n2 cap1)) w2) := Lib.hid (fun h => by
  have e1 : applyE l o = leftE l o := by unfold applyE; rw [if_neg (fun hh => h (HLY.out.1 hh))]
  rw [e1]
  have e2 : (cellsE (leftE l o)).length = n2 := by rw [cellsE_len, HN2.out]
  exact ⟨a1, cap1, by rw [e2], by rw [e2]; exact HO2.out.mono HB.out, HB2.out⟩)
 by_cases h3 : o.k = 3
 ·rw [h3] at c2
  have HE := Lib.hid (HEL.out (fun h => h.1 h3))
  clear h3
  go_wp2_with fail
  go_ret
  exact HE.out
 ·by_cases h5 : o.k = 5
  ·rw [h5] at c2
   have HE := Lib.hid (HEL.out (fun h => h.2 h5))
   clear h5 h3
   go_wp2_with fail
   go_ret
   exact HE.out
  ·have q3 : ((o.k : Int) == 3) = false := by rw [beq_eq_false_iff_ne]; omega
   have q5 : ((o.k : Int) == 5) = false := by rw [beq_eq_false_iff_ne]; omega
   go_wp2_with fail
   clear c2 q3 q5
   refine wp_region_held_drew (S := fun w' => Blk w' p 33 o.arr) (by kernel_rfl) (HOP2.out.below (drew_below _)) (fun hS => ?_)
   refine held_tk 0 22 (.pointer (some ⟨p,3,none⟩)) rfl rfl (by kernel_rfl) (fun _ _ _ h=>h) (fun _ _=>(by kernel_rfl)) hS ?_;simp only [Act.put,ap1,ap2,ap3]
   refine held_tk 1 23 (.int .u16 (o.c : Int)) rfl rfl (by kernel_rfl) (fun _ _ _ h=>h) (fun _ h=>exec_cell rfl rfl (load_cell (by kernel_rfl) (oc3 h))) hS ?_;simp only [Act.put,ap1,ap2,ap3]
   refine held_tk 2 24 (.pointer (some ⟨p,4,none⟩)) rfl rfl (by kernel_rfl) (fun _ _ _ h=>h) (fun _ _=>(by kernel_rfl)) hS ?_;simp only [Act.put,ap1,ap2,ap3]
   refine held_tk 3 25 (.int .u16 (o.i : Int)) rfl rfl (by kernel_rfl) (fun _ _ _ h=>h) (fun _ h=>exec_cell rfl rfl (load_cell (by kernel_rfl) (oc4 h))) hS ?_;simp only [Act.put,ap1,ap2,ap3]
   refine held_tk 4 26 (.pointer (some ⟨p,5,none⟩)) rfl rfl (by kernel_rfl) (fun _ _ _ h=>h) (fun _ _=>(by kernel_rfl)) hS ?_;simp only [Act.put,ap1,ap2,ap3]
   refine held_tk 5 27 (.int .u16 (o.q : Int)) rfl rfl (by kernel_rfl) (fun _ _ _ h=>h) (fun _ h=>exec_cell rfl rfl (load_cell (by kernel_rfl) (oc5 h))) hS ?_;simp only [Act.put,ap1,ap2,ap3]
   refine held_tk 6 28 (.pointer (some ⟨p,2,none⟩)) rfl rfl (by kernel_rfl) (fun _ _ _ h=>h) (fun _ _=>(by kernel_rfl)) hS ?_;simp only [Act.put,ap1,ap2,ap3]
   refine held_tk 7 29 (.int .u8 (o.k : Int)) rfl rfl (by kernel_rfl) (fun _ _ _ h=>h) (fun _ h=>exec_cell rfl rfl (load_cell (by kernel_rfl) (oc2 h))) hS ?_;simp only [Act.put,ap1,ap2,ap3]
   refine held_tk 8 30 (.pointer (some ⟨p,0,none⟩)) rfl rfl (by kernel_rfl) (fun _ _ _ h=>h) (fun _ _=>(by kernel_rfl)) hS ?_;simp only [Act.put,ap1,ap2,ap3]
   refine held_tk 9 31 (dotV o.r o.s) rfl rfl (by kernel_rfl) (fun _ _ _ h=>h) (fun _ h=>exec_dot (p:=o) rfl rfl h) hS ?_;simp only [Act.put,ap1,ap2,ap3]
   refine held_tk 10 32 (.agg o.arr) rfl rfl (by kernel_rfl) (fun _ _ _ h=>h) (fun _ h=>exec_load33 (p:=o) rfl rfl h) hS ?_;simp only [Act.put,ap1,ap2,ap3]
   refine wpAnyH_ready (rs := [11, 13]) (by kernel_rfl) (by simp) (br_callP 11 33 89 #[.agg o.arr] rfl rfl (by kernel_rfl) (by kernel_rfl) (count_any o _) (fun e w5 hP => ?fst) (br_exec 13 6 (.pointer (some ⟨w2.drew.heap.size, 0, none⟩)) rfl rfl (by kernel_rfl) (exec_alloc72z HZO.out rfl) (hS.below (below_one _ _)) ?snd AllReadyH.nil))
   case fst =>
    obtain ⟨rfl, hb5⟩ := hP
    refine ⟨_, rfl, hS.below hb5, fun hS => ?_⟩
    simp only [Act.put, ap1, ap2, ap3]
    refine held_tk 12 34 (.agg (En.made o).arr) rfl rfl (by kernel_rfl) (fun _ _ _ h=>h) (fun _ _=>exec_bldE (e:=En.made o) rfl rfl rfl rfl rfl rfl rfl) hS ?_;simp only [Act.put,ap1,ap2,ap3]
    refine held_exec 13 6 (.pointer (some ⟨w5.heap.size,0,none⟩)) rfl rfl (by kernel_rfl) (by kernel_rfl) (exec_alloc72z HZO.out rfl) (hS.below (below_one _ _)) ?_;simp only [Act.put,ap1,ap2,ap3]
    have H6 := Lib.hid (bo_laid w5 72 zo.arr (En.made o).arr)
    refine held_void 14 rfl rfl (by kernel_rfl) (by kernel_rfl) (exec_store72 (p:=zo) (u:=En.made o) rfl rfl rfl (Blk.new w5 72 zo.arr)) (hS.below H6.out.old) ?_
    have HBB : Hid (Below w2.heap.size w2 w5) := Lib.hid ((drew_below w2).trans (hb5.mono (Nat.le_refl _)))
    generalize (w5.alloc (.cells zo.arr 72)).setRow w5.heap.size (En.made o).arr = w7 at H6
    have HQ := Lib.hid H6.out.one
    have HB5 : Hid (Below w2.heap.size w2 w7) := Lib.hid (HBB.out.trans (H6.out.old.mono HBB.out.size))
    generalize w5.heap.size = q at HQ H6
    have HO7 := Lib.hid (HO2.out.below HB5.out)
    have HB7 : Hid (Below w.heap.size w w7) := Lib.hid (HB2.out.trans (HB5.out.mono HB2.out.size))
    have HS7 : Hid (w0.heap.size ≤ w7.heap.size) := Lib.hid (Nat.le_trans HS2.out HB5.out.size)
    clear hS hb5 H6 HBB HB5 HO2
    refine wpAnyH_done (by kernel_rfl) ?_ _
    have HUN : Hid (∀ y ∈ leftE l o, ¬ En.Like (En.made o) y) := Lib.hid (fun y hy h => HNO.out y ((List.mem_filter.1 hy).1) ⟨h.2.1.symm, h.2.2.symm⟩)
    obtain ⟨k, hk⟩ : ∃ k, ((leftE l o).countP fun y => decide (En.ord y (En.made o) < 0)) = k := ⟨_, rfl⟩
    have HPUT : Hid ((cellsE (leftE l o)).take k ++ (En.made o).cs :: (cellsE (leftE l o)).drop k = cellsE (applyE l o)) := Lib.hid (by
     rw [cells_takeE, putE_at HLS.out HUN.out hk]
     unfold applyE
     rw [if_pos (HLY.out.2 ⟨h3, h5⟩)])
    have hkn2 : k ≤ n2 := by have := List.countP_le_length (p := fun y => decide (En.ord y (En.made o) < 0)) (l := leftE l o); have := HN2.out; omega
    have HBS := Lib.hid (bsE_any (cap := cap1) (by have h := HO7.out.gl; exact h) (by omega) (En.made o) (mono_ord HLS.out (En.made o)))
    rw [hk] at HBS
    clear hk
    generalize foundB (leftE l o) (fun y => En.ord y (En.made o)) = fb at HBS
    go_wp2_with ((refine wpList_run rfl (exec_load72 (p := En.made o) rfl rfl HQ.out) ?_))
    refine HBS.out.mono ?_
    rintro e w8 ⟨rfl, hg8⟩
    have HO8 := Lib.hid (HO7.out.below hg8.below)
    have HQ8 := Lib.hid (HQ.out.grew hg8)
    have HB8 : Hid (Below w.heap.size w w8) := Lib.hid (HB7.out.trans (hg8.below.mono HB7.out.size))
    have HS8 : Hid (w0.heap.size ≤ w8.heap.size) := Lib.hid (Nat.le_trans HS7.out hg8.below.size)
    clear hg8 HBS
    go_wp2_with (first | (refine wpList_run rfl (exec_load72 (p := En.made o) rfl rfl HQ8.out) ?_) | (refine wpList_run rfl (exec_bs72 (p := En.made o) rfl rfl) ?_))
    refine (insE_any (B := w0.heap.size) (x := En.made o) (HO8.out.below (below_one w8 _)) (cellsE_one _) (Blk.new w8 72 (En.made o).arr) (fun ad e => Nat.ne_of_lt (HO8.out.lt ad e).2) hkn2 (by omega) (by have := HS8.out; simp; omega)).mono ?_
    rintro e w9 ⟨a9, cap9, rfl, ho9, hk9, hl9⟩
    rw [HPUT.out] at ho9 ⊢
    have HE : Hid (OwnsP 72 7 (cellsE (applyE l o)) w (.returned (.slice a9 (cellsE (applyE l o)).length cap9)) w9) := Lib.hid ⟨a9, cap9, rfl, ho9.mono HB.out, by
     have h1 : Below w.heap.size w (w8.alloc (.cells (En.made o).arr 72)) := HB8.out.trans ((below_one w8 _).mono HB8.out.size)
     exact h1.trans (hk9.below h1.size (fun j ⟨ad, had, e⟩ => by rw [e]; exact Nat.le_trans HB.out (HO8.out.lt ad had).1))⟩
    generalize (cellsE (applyE l o)).length = N at HE
    clear ho9 hk9 hl9
    go_wp2_with fail
    go_ret
    exact HE.out
   case snd =>
    simp only [Act.put, ap1, ap2, ap3]
    have H6 : Hid (Blk (w2.drew.alloc (.cells zo.arr 72)) w2.drew.heap.size 72 zo.arr) := Lib.hid (Blk.new _ _ _)
    have HBB : Hid (Below w2.heap.size w2 (w2.drew.alloc (.cells zo.arr 72))) := Lib.hid ((drew_below w2).trans ((below_one w2.drew _).mono (Nat.le_refl _)))
    have hS := hS.below (below_one w2.drew (.cells zo.arr 72))
    generalize w2.drew.alloc (.cells zo.arr 72) = w4 at H6 HBB hS
    have HQN : Hid (w2.heap.size ≤ w2.drew.heap.size) := Lib.hid (Nat.le_refl _)
    have HPQ : Hid (p < w2.drew.heap.size) := Lib.hid HOP2.out.lt
    generalize w2.drew.heap.size = q at H6 HQN HPQ
    refine held_callP 11 33 89 #[.agg o.arr] rfl (by kernel_rfl) rfl (by kernel_rfl) (by kernel_rfl) (count_any o _) (fun e w5 hP=>?_)
    obtain ⟨rfl, hb5⟩ := hP
    refine ⟨_, rfl, hS.below hb5, fun hS => ?_⟩
    simp only [Act.put, ap1, ap2, ap3]
    refine held_tk 12 34 (.agg (En.made o).arr) rfl rfl (by kernel_rfl) (fun _ _ _ h=>h) (fun _ _=>exec_bldE (e:=En.made o) rfl rfl rfl rfl rfl rfl rfl) hS ?_;simp only [Act.put,ap1,ap2,ap3]
    have hks := Kept.setRow w5 q (En.made o).arr
    refine held_void 14 rfl rfl (by kernel_rfl) (by kernel_rfl) (exec_store72 (p:=zo) (u:=En.made o) rfl rfl rfl (H6.out.below hb5)) (hS.kept hks (by have:=HPQ.out; omega)) ?_
    have HQ : Hid (Blk (w5.setRow q (En.made o).arr) q 72 (En.made o).arr) := Lib.hid (H6.out.below hb5).row
    have HB5 : Hid (Below w2.heap.size w2 (w5.setRow q (En.made o).arr)) := Lib.hid ((HBB.out.trans (hb5.mono HBB.out.size)).trans (hks.below (Nat.le_trans HBB.out.size hb5.size) (fun k hk => by rw [hk]; exact HQN.out)))
    generalize w5.setRow q (En.made o).arr = w7 at HQ HB5 hks
    have HO7 := Lib.hid (HO2.out.below HB5.out)
    have HB7 : Hid (Below w.heap.size w w7) := Lib.hid (HB2.out.trans (HB5.out.mono HB2.out.size))
    have HS7 : Hid (w0.heap.size ≤ w7.heap.size) := Lib.hid (Nat.le_trans HS2.out HB5.out.size)
    clear hS hb5 H6 HBB HB5 HO2 hks
    refine wpAnyH_done (by kernel_rfl) ?_ _
    have HUN : Hid (∀ y ∈ leftE l o, ¬ En.Like (En.made o) y) := Lib.hid (fun y hy h => HNO.out y ((List.mem_filter.1 hy).1) ⟨h.2.1.symm, h.2.2.symm⟩)
    obtain ⟨k, hk⟩ : ∃ k, ((leftE l o).countP fun y => decide (En.ord y (En.made o) < 0)) = k := ⟨_, rfl⟩
    have HPUT : Hid ((cellsE (leftE l o)).take k ++ (En.made o).cs :: (cellsE (leftE l o)).drop k = cellsE (applyE l o)) := Lib.hid (by
     rw [cells_takeE, putE_at HLS.out HUN.out hk]
     unfold applyE
     rw [if_pos (HLY.out.2 ⟨h3, h5⟩)])
    have hkn2 : k ≤ n2 := by have := List.countP_le_length (p := fun y => decide (En.ord y (En.made o) < 0)) (l := leftE l o); have := HN2.out; omega
    have HBS := Lib.hid (bsE_any (cap := cap1) (by have h := HO7.out.gl; exact h) (by omega) (En.made o) (mono_ord HLS.out (En.made o)))
    rw [hk] at HBS
    clear hk
    generalize foundB (leftE l o) (fun y => En.ord y (En.made o)) = fb at HBS
    go_wp2_with ((refine wpList_run rfl (exec_load72 (p := En.made o) rfl rfl HQ.out) ?_))
    refine HBS.out.mono ?_
    rintro e w8 ⟨rfl, hg8⟩
    have HO8 := Lib.hid (HO7.out.below hg8.below)
    have HQ8 := Lib.hid (HQ.out.grew hg8)
    have HB8 : Hid (Below w.heap.size w w8) := Lib.hid (HB7.out.trans (hg8.below.mono HB7.out.size))
    have HS8 : Hid (w0.heap.size ≤ w8.heap.size) := Lib.hid (Nat.le_trans HS7.out hg8.below.size)
    clear hg8 HBS
    go_wp2_with (first | (refine wpList_run rfl (exec_load72 (p := En.made o) rfl rfl HQ8.out) ?_) | (refine wpList_run rfl (exec_bs72 (p := En.made o) rfl rfl) ?_))
    refine (insE_any (B := w0.heap.size) (x := En.made o) (HO8.out.below (below_one w8 _)) (cellsE_one _) (Blk.new w8 72 (En.made o).arr) (fun ad e => Nat.ne_of_lt (HO8.out.lt ad e).2) hkn2 (by omega) (by have := HS8.out; simp; omega)).mono ?_
    rintro e w9 ⟨a9, cap9, rfl, ho9, hk9, hl9⟩
    rw [HPUT.out] at ho9 ⊢
    have HE : Hid (OwnsP 72 7 (cellsE (applyE l o)) w (.returned (.slice a9 (cellsE (applyE l o)).length cap9)) w9) := Lib.hid ⟨a9, cap9, rfl, ho9.mono HB.out, by
     have h1 : Below w.heap.size w (w8.alloc (.cells (En.made o).arr 72)) := HB8.out.trans ((below_one w8 _).mono HB8.out.size)
     exact h1.trans (hk9.below h1.size (fun j ⟨ad, had, e⟩ => by rw [e]; exact Nat.le_trans HB.out (HO8.out.lt ad had).1))⟩
    generalize (cellsE (applyE l o)).length = N at HE
    clear ho9 hk9 hl9
    go_wp2_with fail
    go_ret
    exact HE.out
end Go.Proofs.YtnekpgmgnepdoaaGreat
end
