import Derived.Test.YtnekpgmgnepdoaaGreatZao
import Derived.Test.YtnekpgmgnepdoaaGreatZaq
section
namespace Go.Proofs.YtnekpgmgnepdoaaGreat
open Go.RowKit
theorem mono_ord {l : List En} (h : l.Pairwise En.Ahead) (x : En) : Mono l fun y => En.ord y x := fun i j a b hij ha hb hn => by
 simp only at hn ⊢
 rw [En.ord_neg] at hn ⊢
 by_cases e : i = j
 ·subst e
  rw [ha] at hb
  cases hb
  exact hn
 ·exact (ahead_get h (by omega) ha hb).trans hn
theorem exec_bldE {ev : Operand → Value} {q : Oper} {w : World} {x0 x1 x2 x3 x4 x5 : Operand} {e : En} (ho : q.op = .build 72 #[(0, x0), (1, x1), (2, x2), (3, x3), (4, x4), (5, x5)]) (h0 : ev x0 = .int .u16 (e.c : Int)) (h1 : ev x1 = .int .u16 (e.i : Int)) (h2 : ev x2 = .int .u16 (e.q : Int)) (h3 : ev x3 = .int .u8 (e.k : Int)) (h4 : ev x4 = dotV e.r e.s) (h5 : ev x5 = .int .u64 (e.n : Int)) : (execOp ev q).run Tryz.prog w = .ok (.value (.agg e.arr)) w := by
 have hm : (#[((0 : Nat), x0), (1, x1), (2, x2), (3, x3), (4, x4), (5, x5)]).map (fun (i, x) => (i, ev x)) = #[(0, .int .u16 (e.c : Int)), (1, .int .u16 (e.i : Int)), (2, .int .u16 (e.q : Int)), (3, .int .u8 (e.k : Int)), (4, dotV e.r e.s), (5, .int .u64 (e.n : Int))] := by simp [h0, h1, h2, h3, h4, h5]
 have hb : (Instr.build 72 #[(0, .int .u16 (e.c : Int)), (1, .int .u16 (e.i : Int)), (2, .int .u16 (e.q : Int)), (3, .int .u8 (e.k : Int)), (4, dotV e.r e.s), (5, .int .u64 (e.n : Int))]).run Tryz.prog w = .ok (.agg e.arr) w := run_build w 72 _ _ (by kernel_rfl)
 unfold execOp
 simp only [ho, hm, Sem.run_bind, hb, Result.andThen_ok]
 rfl
set_option maxRecDepth 100000 in
set_option maxHeartbeats 8000000 in
theorem applyEntries_any {a : Option Addr} {n cap : Nat} {l : List En} {w : World} (hl : EL w a n l) (hn : n < 300000) (hs : l.Pairwise En.Ahead) (o : O) (hno : ∀ y ∈ l, ¬ (y.r = o.r ∧ y.s = o.s)) (hly : o.laysB = true ↔ ¬ o.k = 3 ∧ ¬ o.k = 5) : Calls Tryz.prog 42 #[.slice a n cap, .agg o.arr] w (OwnsP 72 7 (cellsE (applyE l o)) w) := by
 have HL := Lib.hid hl
 have hlen := hl.len'
 have HLS : Hid ((leftE l o).Pairwise En.Ahead) := Lib.hid (hs.filter _)
 have HNO := Lib.hid hno
 have HLY := Lib.hid hly
 have hn2 : (leftE l o).length ≤ n := by rw [← hlen]; exact List.length_filter_le _ _
 have hb1 := fun (o : O) w => box33 o w
 have HP := Lib.hid (ow_new w o)
 obtain ⟨zo, hzo⟩ : ∃ z, En.zero = z := ⟨_, rfl⟩
 have HZO := Lib.hid hzo
 clear hl hs hno hly hzo
 go_enter Tryz.func42, Tryz.ntmps42
 go_wp2_with fail
 clear hb1
 generalize w.alloc (.cells o.arr 33) = w0 at HP
 refine (cloneE_any (cap := cap) (HL.out.below HP.out.old) (by omega)).mono ?_
 rintro e w1 ⟨a1, cap1, rfl, ho1, hb⟩
 rw [show (cellsE l).length = n by simp [cellsE, hlen]] at ho1 ⊢
 have HP1 := Lib.hid (HP.out.below hb)
 have HO1 := Lib.hid ho1
 have HB : Hid (w.heap.size ≤ w0.heap.size) := Lib.hid HP.out.old.size
 have HPW : Hid (w.heap.size < w0.heap.size) := Lib.hid HP.out.one.lt
 have HS1 : Hid (w0.heap.size ≤ w1.heap.size) := Lib.hid hb.size
 obtain ⟨p, hp⟩ : ∃ p, w.heap.size = p := ⟨_, rfl⟩
 have HPP := Lib.hid hp
 have HOP : Hid (Blk w1 p 33 o.arr) := Lib.hid (by rw [← hp]; exact HP1.out.one)
 have HOLD := Lib.hid HP1.out.old
 rw [hp]
 clear ho1 hb hp HP HP1 HL hlen
 go_wp2_with fail
 refine (del_any HO1.out HOP.out (fun ad e => by have := (HO1.out.lt ad e).1; have := HPP.out; have := HPW.out; omega) (by omega)).mono ?_
 rintro e w2 ⟨rfl, ho2, hk2⟩
 have HAT : Hid (∀ k, At a1 k → w0.heap.size ≤ k) := Lib.hid (fun k ⟨ad, had, e⟩ => by rw [e]; exact (HO1.out.lt ad had).1)
 obtain ⟨n2, hn3⟩ : ∃ n2, (leftE l o).length = n2 := ⟨_, rfl⟩
 have HN2 := Lib.hid hn3
 rw [hn3] at ho2 hn2 ⊢
 have HO2 := Lib.hid ho2
 have HOP2 : Hid (Blk w2 p 33 o.arr) := Lib.hid (HOP.out.kept hk2 (fun h => by have := HAT.out _ h; have := HPP.out; have := HPW.out; omega))
 have HB2 : Hid (Below w.heap.size w w2) := Lib.hid (HOLD.out.trans (hk2.below HOLD.out.size (fun k hk => Nat.le_trans HB.out (HAT.out k hk))))
 have HS2 : Hid (w0.heap.size ≤ w2.heap.size) := Lib.hid (Nat.le_trans HS1.out hk2.size)
 clear hn3 ho2 hk2 HO1 HOP HOLD
 have c2 := oc2 HOP2.out
 have HEL : Hid (¬ (¬ o.k = 3 ∧ ¬ o.k = 5) → OwnsP 72 7 (cellsE (applyE l o)) w (.returned (.slice a1 n2 cap1)) w2) := Lib.hid (fun h => by
  have e1 : applyE l o = leftE l o := by unfold applyE; rw [if_neg (fun hh => h (HLY.out.1 hh))]
  rw [e1]
  have e2 : (cellsE (leftE l o)).length = n2 := by rw [cellsE_len, HN2.out]
  exact ⟨a1, cap1, by rw [e2], by rw [e2]; exact HO2.out.mono HB.out, HB2.out⟩)
 by_cases h3 : o.k = 3
 ·rw [h3] at c2
  have HE := Lib.hid (HEL.out (fun h => h.1 h3))
  clear h3
  go_wp2_with fail
  go_ret
  exact HE.out
 ·by_cases h5 : o.k = 5
  ·rw [h5] at c2
   have HE := Lib.hid (HEL.out (fun h => h.2 h5))
   clear h5 h3
   go_wp2_with fail
   go_ret
   exact HE.out
  ·have q3 : ((o.k : Int) == 3) = false := by rw [beq_eq_false_iff_ne]; omega
   have q5 : ((o.k : Int) == 5) = false := by rw [beq_eq_false_iff_ne]; omega
   go_wp2_with fail
   clear c2 q3 q5
   refine wp_region_held_drew (S := fun w' => Blk w' p 33 o.arr) (by kernel_rfl) (HOP2.out.below (drew_below _)) (fun hS => ?_)
   refine held_tk 0 22 (.pointer (some ⟨p, 3, none⟩)) rfl rfl (by kernel_rfl) (fun _ _ _ h => h) (fun _ _ => (by kernel_rfl)) hS ?_
   simp only [Act.put, ap1, ap2, ap3]
   refine held_tk 1 23 (.int .u16 (o.c : Int)) rfl rfl (by kernel_rfl) (fun _ _ _ h => h) (fun _ h => exec_cell rfl rfl (load_cell (by kernel_rfl) (oc3 h))) hS ?_
   simp only [Act.put, ap1, ap2, ap3]
   refine held_tk 2 24 (.pointer (some ⟨p, 4, none⟩)) rfl rfl (by kernel_rfl) (fun _ _ _ h => h) (fun _ _ => (by kernel_rfl)) hS ?_
   simp only [Act.put, ap1, ap2, ap3]
   refine held_tk 3 25 (.int .u16 (o.i : Int)) rfl rfl (by kernel_rfl) (fun _ _ _ h => h) (fun _ h => exec_cell rfl rfl (load_cell (by kernel_rfl) (oc4 h))) hS ?_
   simp only [Act.put, ap1, ap2, ap3]
   refine held_tk 4 26 (.pointer (some ⟨p, 5, none⟩)) rfl rfl (by kernel_rfl) (fun _ _ _ h => h) (fun _ _ => (by kernel_rfl)) hS ?_
   simp only [Act.put, ap1, ap2, ap3]
   refine held_tk 5 27 (.int .u16 (o.q : Int)) rfl rfl (by kernel_rfl) (fun _ _ _ h => h) (fun _ h => exec_cell rfl rfl (load_cell (by kernel_rfl) (oc5 h))) hS ?_
   simp only [Act.put, ap1, ap2, ap3]
   refine held_tk 6 28 (.pointer (some ⟨p, 2, none⟩)) rfl rfl (by kernel_rfl) (fun _ _ _ h => h) (fun _ _ => (by kernel_rfl)) hS ?_
   simp only [Act.put, ap1, ap2, ap3]
   refine held_tk 7 29 (.int .u8 (o.k : Int)) rfl rfl (by kernel_rfl) (fun _ _ _ h => h) (fun _ h => exec_cell rfl rfl (load_cell (by kernel_rfl) (oc2 h))) hS ?_
   simp only [Act.put, ap1, ap2, ap3]
   refine held_tk 8 30 (.pointer (some ⟨p, 0, none⟩)) rfl rfl (by kernel_rfl) (fun _ _ _ h => h) (fun _ _ => (by kernel_rfl)) hS ?_
   simp only [Act.put, ap1, ap2, ap3]
   refine held_tk 9 31 (dotV o.r o.s) rfl rfl (by kernel_rfl) (fun _ _ _ h => h) (fun _ h => exec_dot (p := o) rfl rfl h) hS ?_
   simp only [Act.put, ap1, ap2, ap3]
   refine held_tk 10 32 (.agg o.arr) rfl rfl (by kernel_rfl) (fun _ _ _ h => h) (fun _ h => exec_load33 (p := o) rfl rfl h) hS ?_
   simp only [Act.put, ap1, ap2, ap3]
   refine wpAnyH_ready (rs := [11, 13]) (by kernel_rfl) (by simp) (br_callP 11 33 89 #[.agg o.arr] rfl rfl (by kernel_rfl) (by kernel_rfl) (count_any o _) (fun e w5 hP => ?fst) (br_exec 13 6 (.pointer (some ⟨w2.drew.heap.size, 0, none⟩)) rfl rfl (by kernel_rfl) (exec_alloc72z HZO.out rfl) (hS.below (below_one _ _)) ?snd AllReadyH.nil))
   case fst =>
    obtain ⟨rfl, hb5⟩ := hP
    refine ⟨_, rfl, hS.below hb5, fun hS => ?_⟩
    simp only [Act.put, ap1, ap2, ap3]
    refine held_tk 12 34 (.agg (En.made o).arr) rfl rfl (by kernel_rfl) (fun _ _ _ h => h) (fun _ _ => exec_bldE (e := En.made o) rfl rfl rfl rfl rfl rfl rfl) hS ?_
    simp only [Act.put, ap1, ap2, ap3]
    refine held_exec 13 6 (.pointer (some ⟨w5.heap.size, 0, none⟩)) rfl rfl (by kernel_rfl) (by kernel_rfl) (exec_alloc72z HZO.out rfl) (hS.below (below_one _ _)) ?_
    simp only [Act.put, ap1, ap2, ap3]
    have H6 := Lib.hid (bo_laid w5 72 zo.arr (En.made o).arr)
    refine held_void 14 rfl rfl (by kernel_rfl) (by kernel_rfl) (exec_store72 (p := zo) (u := En.made o) rfl rfl rfl (Blk.new w5 72 zo.arr)) (hS.below H6.out.old) ?_
    have HBB : Hid (Below w2.heap.size w2 w5) := Lib.hid ((drew_below w2).trans (hb5.mono (Nat.le_refl _)))
    generalize (w5.alloc (.cells zo.arr 72)).setRow w5.heap.size (En.made o).arr = w7 at H6
    have HQ := Lib.hid H6.out.one
    have HB5 : Hid (Below w2.heap.size w2 w7) := Lib.hid (HBB.out.trans (H6.out.old.mono HBB.out.size))
    generalize w5.heap.size = q at HQ H6
    have HO7 := Lib.hid (HO2.out.below HB5.out)
    have HB7 : Hid (Below w.heap.size w w7) := Lib.hid (HB2.out.trans (HB5.out.mono HB2.out.size))
    have HS7 : Hid (w0.heap.size ≤ w7.heap.size) := Lib.hid (Nat.le_trans HS2.out HB5.out.size)
    clear hS hb5 H6 HBB HB5 HO2
    refine wpAnyH_done (by kernel_rfl) ?_ _
    have HUN : Hid (∀ y ∈ leftE l o, ¬ En.Like (En.made o) y) := Lib.hid (fun y hy h => HNO.out y ((List.mem_filter.1 hy).1) ⟨h.2.1.symm, h.2.2.symm⟩)
    obtain ⟨k, hk⟩ : ∃ k, ((leftE l o).countP fun y => decide (En.ord y (En.made o) < 0)) = k := ⟨_, rfl⟩
    have HPUT : Hid ((cellsE (leftE l o)).take k ++ (En.made o).cs :: (cellsE (leftE l o)).drop k = cellsE (applyE l o)) := Lib.hid (by
     rw [cells_takeE, putE_at HLS.out HUN.out hk]
     unfold applyE
     rw [if_pos (HLY.out.2 ⟨h3, h5⟩)])
    have hkn2 : k ≤ n2 := by have := List.countP_le_length (p := fun y => decide (En.ord y (En.made o) < 0)) (l := leftE l o); have := HN2.out; omega
    have HBS := Lib.hid (bsE_any (cap := cap1) (by have h := HO7.out.gl; exact h) (by omega) (En.made o) (mono_ord HLS.out (En.made o)))
    rw [hk] at HBS
    clear hk
    generalize foundB (leftE l o) (fun y => En.ord y (En.made o)) = fb at HBS
    go_wp2_with ((refine wpList_run rfl (exec_load72 (p := En.made o) rfl rfl HQ.out) ?_))
    refine HBS.out.mono ?_
    rintro e w8 ⟨rfl, hg8⟩
    have HO8 := Lib.hid (HO7.out.below hg8.below)
    have HQ8 := Lib.hid (HQ.out.grew hg8)
    have HB8 : Hid (Below w.heap.size w w8) := Lib.hid (HB7.out.trans (hg8.below.mono HB7.out.size))
    have HS8 : Hid (w0.heap.size ≤ w8.heap.size) := Lib.hid (Nat.le_trans HS7.out hg8.below.size)
    clear hg8 HBS
    go_wp2_with (first | (refine wpList_run rfl (exec_load72 (p := En.made o) rfl rfl HQ8.out) ?_) | (refine wpList_run rfl (exec_bs72 (p := En.made o) rfl rfl) ?_))
    refine (insE_any (B := w0.heap.size) (x := En.made o) (HO8.out.below (below_one w8 _)) (cellsE_one _) (Blk.new w8 72 (En.made o).arr) (fun ad e => Nat.ne_of_lt (HO8.out.lt ad e).2) hkn2 (by omega) (by have := HS8.out; simp; omega)).mono ?_
    rintro e w9 ⟨a9, cap9, rfl, ho9, hk9, hl9⟩
    rw [HPUT.out] at ho9 ⊢
    have HE : Hid (OwnsP 72 7 (cellsE (applyE l o)) w (.returned (.slice a9 (cellsE (applyE l o)).length cap9)) w9) := Lib.hid ⟨a9, cap9, rfl, ho9.mono HB.out, by
     have h1 : Below w.heap.size w (w8.alloc (.cells (En.made o).arr 72)) := HB8.out.trans ((below_one w8 _).mono HB8.out.size)
     exact h1.trans (hk9.below h1.size (fun j ⟨ad, had, e⟩ => by rw [e]; exact Nat.le_trans HB.out (HO8.out.lt ad had).1))⟩
    generalize (cellsE (applyE l o)).length = N at HE
    clear ho9 hk9 hl9
    go_wp2_with fail
    go_ret
    exact HE.out
   case snd =>
    simp only [Act.put, ap1, ap2, ap3]
    have H6 : Hid (Blk (w2.drew.alloc (.cells zo.arr 72)) w2.drew.heap.size 72 zo.arr) := Lib.hid (Blk.new _ _ _)
    have HBB : Hid (Below w2.heap.size w2 (w2.drew.alloc (.cells zo.arr 72))) := Lib.hid ((drew_below w2).trans ((below_one w2.drew _).mono (Nat.le_refl _)))
    have hS := hS.below (below_one w2.drew (.cells zo.arr 72))
    generalize w2.drew.alloc (.cells zo.arr 72) = w4 at H6 HBB hS
    have HQN : Hid (w2.heap.size ≤ w2.drew.heap.size) := Lib.hid (Nat.le_refl _)
    have HPQ : Hid (p < w2.drew.heap.size) := Lib.hid HOP2.out.lt
    generalize w2.drew.heap.size = q at H6 HQN HPQ
    refine held_callP 11 33 89 #[.agg o.arr] rfl (by kernel_rfl) rfl (by kernel_rfl) (by kernel_rfl) (count_any o _) (fun e w5 hP => ?_)
    obtain ⟨rfl, hb5⟩ := hP
    refine ⟨_, rfl, hS.below hb5, fun hS => ?_⟩
    simp only [Act.put, ap1, ap2, ap3]
    refine held_tk 12 34 (.agg (En.made o).arr) rfl rfl (by kernel_rfl) (fun _ _ _ h => h) (fun _ _ => exec_bldE (e := En.made o) rfl rfl rfl rfl rfl rfl rfl) hS ?_
    simp only [Act.put, ap1, ap2, ap3]
    have hks := Kept.setRow w5 q (En.made o).arr
    refine held_void 14 rfl rfl (by kernel_rfl) (by kernel_rfl) (exec_store72 (p := zo) (u := En.made o) rfl rfl rfl (H6.out.below hb5)) (hS.kept hks (by have := HPQ.out; omega)) ?_
    have HQ : Hid (Blk (w5.setRow q (En.made o).arr) q 72 (En.made o).arr) := Lib.hid (H6.out.below hb5).row
    have HB5 : Hid (Below w2.heap.size w2 (w5.setRow q (En.made o).arr)) := Lib.hid ((HBB.out.trans (hb5.mono HBB.out.size)).trans (hks.below (Nat.le_trans HBB.out.size hb5.size) (fun k hk => by rw [hk]; exact HQN.out)))
    generalize w5.setRow q (En.made o).arr = w7 at HQ HB5 hks
    have HO7 := Lib.hid (HO2.out.below HB5.out)
    have HB7 : Hid (Below w.heap.size w w7) := Lib.hid (HB2.out.trans (HB5.out.mono HB2.out.size))
    have HS7 : Hid (w0.heap.size ≤ w7.heap.size) := Lib.hid (Nat.le_trans HS2.out HB5.out.size)
    clear hS hb5 H6 HBB HB5 HO2 hks
    refine wpAnyH_done (by kernel_rfl) ?_ _
    have HUN : Hid (∀ y ∈ leftE l o, ¬ En.Like (En.made o) y) := Lib.hid (fun y hy h => HNO.out y ((List.mem_filter.1 hy).1) ⟨h.2.1.symm, h.2.2.symm⟩)
    obtain ⟨k, hk⟩ : ∃ k, ((leftE l o).countP fun y => decide (En.ord y (En.made o) < 0)) = k := ⟨_, rfl⟩
    have HPUT : Hid ((cellsE (leftE l o)).take k ++ (En.made o).cs :: (cellsE (leftE l o)).drop k = cellsE (applyE l o)) := Lib.hid (by
     rw [cells_takeE, putE_at HLS.out HUN.out hk]
     unfold applyE
     rw [if_pos (HLY.out.2 ⟨h3, h5⟩)])
    have hkn2 : k ≤ n2 := by have := List.countP_le_length (p := fun y => decide (En.ord y (En.made o) < 0)) (l := leftE l o); have := HN2.out; omega
    have HBS := Lib.hid (bsE_any (cap := cap1) (by have h := HO7.out.gl; exact h) (by omega) (En.made o) (mono_ord HLS.out (En.made o)))
    rw [hk] at HBS
    clear hk
    generalize foundB (leftE l o) (fun y => En.ord y (En.made o)) = fb at HBS
    go_wp2_with ((refine wpList_run rfl (exec_load72 (p := En.made o) rfl rfl HQ.out) ?_))
    refine HBS.out.mono ?_
    rintro e w8 ⟨rfl, hg8⟩
    have HO8 := Lib.hid (HO7.out.below hg8.below)
    have HQ8 := Lib.hid (HQ.out.grew hg8)
    have HB8 : Hid (Below w.heap.size w w8) := Lib.hid (HB7.out.trans (hg8.below.mono HB7.out.size))
    have HS8 : Hid (w0.heap.size ≤ w8.heap.size) := Lib.hid (Nat.le_trans HS7.out hg8.below.size)
    clear hg8 HBS
    go_wp2_with (first | (refine wpList_run rfl (exec_load72 (p := En.made o) rfl rfl HQ8.out) ?_) | (refine wpList_run rfl (exec_bs72 (p := En.made o) rfl rfl) ?_))
    refine (insE_any (B := w0.heap.size) (x := En.made o) (HO8.out.below (below_one w8 _)) (cellsE_one _) (Blk.new w8 72 (En.made o).arr) (fun ad e => Nat.ne_of_lt (HO8.out.lt ad e).2) hkn2 (by omega) (by have := HS8.out; simp; omega)).mono ?_
    rintro e w9 ⟨a9, cap9, rfl, ho9, hk9, hl9⟩
    rw [HPUT.out] at ho9 ⊢
    have HE : Hid (OwnsP 72 7 (cellsE (applyE l o)) w (.returned (.slice a9 (cellsE (applyE l o)).length cap9)) w9) := Lib.hid ⟨a9, cap9, rfl, ho9.mono HB.out, by
     have h1 : Below w.heap.size w (w8.alloc (.cells (En.made o).arr 72)) := HB8.out.trans ((below_one w8 _).mono HB8.out.size)
     exact h1.trans (hk9.below h1.size (fun j ⟨ad, had, e⟩ => by rw [e]; exact Nat.le_trans HB.out (HO8.out.lt ad had).1))⟩
    generalize (cellsE (applyE l o)).length = N at HE
    clear ho9 hk9 hl9
    go_wp2_with fail
    go_ret
    exact HE.out
end Go.Proofs.YtnekpgmgnepdoaaGreat
end
section
namespace Go.Proofs.YtnekpgmgnepdoaaGreat
open Go.RowKit
def StP (s : Sta) (er : Nat) (w : World) (e : Ending) (w' : World) : Prop :=
 ∃ a n c b m d, e = .returned (.tuple #[.agg (sv s.v a n c b m d), .int .i64 (er : Int)]) ∧ OwnG w' 72 7 w.heap.size a n c (cellsE s.es) ∧ OwnG w' 96 2 w.heap.size b m d (cellsL s.ts) ∧ Below w.heap.size w w'
open Classical in
noncomputable def appE (s : Sta) (o : O) : Nat := if s.Right then O.readyE s.v o else 2
open Classical in
noncomputable def appS (s : Sta) (o : O) : Sta := if appE s o = 0 then applyS s o else Sta.zero
theorem ready_facts {v : V} {o : O} (h : O.readyE v o = 0) : o.rightB 16 = true ∧ V.hasB v o.r o.s = false ∧ V.belowB o.v v = true := by
 unfold O.readyE at h
 cases h1 : o.rightB 16
 ·rw [h1] at h; simp at h
 ·rw [h1] at h
  cases h2 : V.hasB v o.r o.s
  ·rw [h2] at h
   cases h3 : V.belowB o.v v
   ·rw [h3] at h; simp at h
   ·exact ⟨rfl, rfl, rfl⟩
  ·rw [h2] at h; simp at h
theorem ready_next {v : V} {o : O} (h : O.readyE v o = 0) : V.nextE v o.r o.s = 0 := by
 obtain ⟨h1, h2, h3⟩ := ready_facts h
 rw [O.next_zero]
 obtain ⟨d1, d2, _⟩ := (O.right_iff o 16).1 h1
 have hr : o.r < 16 := by
  have : o.r < 16 ∧ 1 ≤ o.s ∧ o.s ≤ 1048576 := by simpa [V.dotB] using d1
  exact this.1
 have h4 := (V.belowB_iff o.v v).1 h3 o.r hr
 unfold V.hasB at h2
 rw [d1, Bool.true_and, decide_eq_false_iff_not] at h2
 exact ⟨d1, by omega⟩
theorem ready_lays {v : V} {o : O} (h : O.readyE v o = 0) : o.laysB = true ↔ ¬ o.k = 3 ∧ ¬ o.k = 5 := by
 obtain ⟨h1, _, _⟩ := ready_facts h
 have hk := ((O.right_iff o 16).1 h1).2.2.2.2.2
 unfold O.kindB at hk
 rw [decide_eq_true_eq] at hk
 unfold O.laysB
 rw [decide_eq_true_eq]
 omega
theorem ready_new {s : Sta} {o : O} (hr : s.Right) (h : O.readyE s.v o = 0) : ∀ y ∈ s.es, ¬ (y.r = o.r ∧ y.s = o.s) := fun y hy ⟨e1, e2⟩ => by
 have h1 := (hr.has y hy).2.1
 have h2 := (ready_facts h).2.1
 rw [e1, e2, h2] at h1
 cases h1
structure Ax (W : World) (s : Sta) (o : O) (u : V) (ps po pv : Nat) (a : Option Addr) (n c : Nat) (b : Option Addr) (m d : Nat) : Prop where
 st : Blk W ps 39 (sv s.v a n c b m d)
 op : Blk W po 33 o.arr
 vec : Blk W pv 24 u.arr
theorem Ax.below {W W' : World} {s : Sta} {o : O} {u : V} {ps po pv n c m d : Nat} {a b : Option Addr} (h : Ax W s o u ps po pv a n c b m d) (hb : Below W.heap.size W W') : Ax W' s o u ps po pv a n c b m d := ⟨h.st.below hb, h.op.below hb, h.vec.below hb⟩
structure Ax0 (w W : World) (s : Sta) (o : O) (ps po pr : Nat) (a : Option Addr) (n c : Nat) (b : Option Addr) (m d : Nat) (z : V) : Prop where
 st : Blk W ps 39 (sv s.v a n c b m d)
 op : Blk W po 33 o.arr
 res : Blk W pr 39 (sv z none 0 0 none 0 0)
 old : Below w.heap.size w W
theorem Ax0.below {w W W' : World} {s : Sta} {o : O} {ps po pr n c m d : Nat} {a b : Option Addr} {z : V} (h : Ax0 w W s o ps po pr a n c b m d z) (hb : Below W.heap.size W W') : Ax0 w W' s o ps po pr a n c b m d z := ⟨h.st.below hb, h.op.below hb, h.res.below hb, h.old.trans (hb.mono h.old.size)⟩
theorem ax0_new (w : World) (s : Sta) (o : O) (a : Option Addr) (n c : Nat) (b : Option Addr) (m d : Nat) (z : V) : Ax0 w (((w.alloc (.cells (sv s.v a n c b m d) 39)).alloc (.cells o.arr 33)).alloc (.cells (sv z none 0 0 none 0 0) 39)) s o w.heap.size (w.heap.size + 1) (w.heap.size + 1 + 1) a n c b m d z := by
 have h1 := Blk.new w 39 (sv s.v a n c b m d)
 have h2 := Blk.new (w.alloc (.cells (sv s.v a n c b m d) 39)) 33 o.arr
 have h3 := Blk.new ((w.alloc (.cells (sv s.v a n c b m d) 39)).alloc (.cells o.arr 33)) 39 (sv z none 0 0 none 0 0)
 have b2 := below_one (w.alloc (.cells (sv s.v a n c b m d) 39)) (.cells o.arr 33)
 have b3 := below_one ((w.alloc (.cells (sv s.v a n c b m d) 39)).alloc (.cells o.arr 33)) (.cells (sv z none 0 0 none 0 0) 39)
 simp only [World.size_alloc] at h2 h3
 exact ⟨(h1.below b2).below b3, h2.below b3, h3, ((below_one w _).trans (b2.mono (by simp))).trans (b3.mono (by simp; omega))⟩
set_option maxRecDepth 100000 in
set_option maxHeartbeats 8000000 in
theorem apply_any {s : Sta} {a b : Option Addr} {n c m d : Nat} {w : World} (hl : SL w s a n b m) (hn : n < 100) (hm : m < 200000) (o : O) : Calls Tryz.prog 14 #[.agg (sv s.v a n c b m d), .agg o.arr] w (StP (appS s o) (appE s o) w) := by
 have HL := Lib.hid hl
 have HES := Lib.hid hl.es.len'
 have HTS := Lib.hid hl.ts.len'
 obtain ⟨z, hz⟩ : ∃ z, V.zero = z := ⟨_, rfl⟩
 have HZ := Lib.hid hz
 have hb1 := fun (v : V) x y w => box39 v x y w
 have hb2 := fun (o : O) w => box33 o w
 have H0 := Lib.hid (ax0_new w s o a n c b m d z)
 have HZE : Hid (∀ er W, appE s o = er → er ≠ 0 → Below w.heap.size w W → StP (appS s o) (appE s o) w (.returned (.tuple #[.agg (sv z none 0 0 none 0 0), .int .i64 (er : Int)])) W) := Lib.hid (fun er W he h0 hb => by
  have e1 : appS s o = Sta.zero := by unfold appS; rw [if_neg (by rw [he]; exact h0)]
  rw [e1, he]
  exact ⟨none, 0, 0, none, 0, 0, by rw [← hz]; rfl, ownG_nil _ _ _ _, ownG_nil _ _ _ _, hb⟩)
 clear hl hz
 go_enter Tryz.func14, Tryz.ntmps14
 go_upto_region 1 with (refine wpList_run rfl (exec_alloc39z HZ.out rfl) ?_)
 clear hb1 hb2
 generalize ((w.alloc (.cells (sv s.v a n c b m d) 39)).alloc (.cells o.arr 33)).alloc (.cells (sv z none 0 0 none 0 0) 39) = w0 at H0
 obtain ⟨ps, hps⟩ : ∃ p, w.heap.size = p := ⟨_, rfl⟩
 obtain ⟨po, hpo⟩ : ∃ p, ps + 1 = p := ⟨_, rfl⟩
 obtain ⟨pr, hpr⟩ : ∃ p, po + 1 = p := ⟨_, rfl⟩
 have HPS : Hid (w.heap.size = ps ∧ ps + 1 = po ∧ po + 1 = pr) := Lib.hid ⟨hps, hpo, hpr⟩
 have H1 : Hid (Ax0 w w0 s o ps po pr a n c b m d z) := Lib.hid (by have h := H0.out; rw [hps, hpo, hpr] at h; exact h)
 rw [hps, hpo, hpr]
 clear hps hpo hpr H0
 go_wp2_with (refine wpList_run rfl (exec_load39 rfl rfl H1.out.st) ?_)
 refine (right_any' (HL.out.below H1.out.old) hn (by omega)).mono ?_
 rintro e w1 ⟨r, rfl, hr, hb⟩
 have H2 := Lib.hid (H1.out.below hb)
 clear hb H1
 cases r
 ·have HE2 : Hid (appE s o = 2) := Lib.hid (by unfold appE; rw [if_neg (fun h => by have := hr.2 h; cases this)])
  clear hr
  go_wp2_with (first | (refine wpList_run rfl (exec_zero39 HZ.out rfl) ?_) | (refine wpList_stop39 rfl ?_))
  refine ⟨?_⟩
  refine wpList_void rfl rfl (exec_store39 (u := z) (a := none) (n := 0) (c := 0) (b := none) (m := 0) (d := 0) rfl rfl rfl H2.out.res) ?_
  have hks := Kept.setRow w1 pr (sv z none 0 0 none 0 0)
  have HB3 : Hid (Below w.heap.size w (w1.setRow pr (sv z none 0 0 none 0 0))) := Lib.hid (H2.out.old.trans (hks.below H2.out.old.size (fun k hk => by have := HPS.out; omega)))
  have HR3 : Hid (Blk (w1.setRow pr (sv z none 0 0 none 0 0)) pr 39 (sv z none 0 0 none 0 0)) := Lib.hid H2.out.res.row
  generalize w1.setRow pr (sv z none 0 0 none 0 0) = w3 at HB3 HR3 hks
  clear hks
  go_wp2_with fail
  exact bodyPost_ret (v := .tuple #[.agg (sv z none 0 0 none 0 0), .int .i64 ((2 : Nat) : Int)]) (ret39_two rfl rfl rfl HR3.out) rfl (HZE.out 2 _ HE2.out (by omega) HB3.out)
 ·have hR : s.Right := hr.1 rfl
  have HR := Lib.hid hR
  have HE2 : Hid (appE s o = O.readyE s.v o) := Lib.hid (by unfold appE; rw [if_pos hR])
  clear hr hR
  go_wp2_with (first | (refine wpList_run rfl (exec_stV (v := s.v) rfl rfl H2.out.st) ?_) | (refine wpList_run rfl (exec_load33 (p := o) rfl rfl H2.out.op) ?_))
  refine (ready_any s.v o _).mono ?_
  rintro e w2 ⟨rfl, hb⟩
  have H3 := Lib.hid (H2.out.below hb)
  clear hb H2
  obtain ⟨er, her⟩ : ∃ er, O.readyE s.v o = er := ⟨_, rfl⟩
  have HER := Lib.hid her
  rw [her] at HE2 ⊢
  clear her
  by_cases h0 : er = 0
  ·subst h0
   have HNX : Hid (V.nextE s.v o.r o.s = 0) := Lib.hid (ready_next HER.out)
   obtain ⟨u, hu⟩ : ∃ u, V.nextV s.v o.r o.s = u := ⟨_, rfl⟩
   have HU : Hid (u = V.put s.v o.r o.s) := Lib.hid (by rw [← hu]; unfold V.nextV; rw [if_pos HNX.out])
   have HN := Lib.hid (fun w => next_any s.v o.r o.s w o.hr o.hs)
   rw [hu, HNX.out] at HN
   clear hu
   go_wp2_with (first | (refine wpList_run rfl (exec_stV (v := s.v) rfl rfl H3.out.st) ?_) | (refine wpList_run rfl (exec_dot (p := o) rfl rfl H3.out.op) ?_))
   refine (HN.out _).mono ?_
   rintro e w3 ⟨rfl, hb⟩
   have H4 := Lib.hid (H3.out.below hb)
   clear hb H3 HN
   go_wp2_with (first | (refine wpList_alloc24 HZ.out rfl rfl ?_) | (refine wpList_stop rfl ?_))
   refine ⟨?_⟩
   refine wpList_store24 rfl rfl rfl rfl (Blk.new w3 24 z.arr) ?_
   have H5 := Lib.hid (H4.out.below (laid_old w3 z u))
   have HV5 := Lib.hid (laid_blk w3 z u)
   generalize (w3.alloc (.cells z.arr 24)).setRow w3.heap.size u.arr = w4 at H5 HV5
   have HPV : Hid (w.heap.size ≤ w3.heap.size) := Lib.hid H4.out.old.size
   have HRV : Hid (pr < w3.heap.size) := Lib.hid H4.out.res.lt
   generalize w3.heap.size = pv at HV5 HPV HRV
   clear H4
   go_wp2_with fail
   have HAX : Hid (Ax w4 s o u ps po pv a n c b m d) := Lib.hid ⟨H5.out.st, H5.out.op, HV5.out⟩
   refine wp_region_held_drew (S := fun w' => Ax w' s o u ps po pv a n c b m d) (by kernel_rfl) (HAX.out.below (drew_below _)) (fun hS => ?_)
   refine held_tk 0 29 (.agg u.arr) rfl rfl (by kernel_rfl) (fun _ _ _ h => h) (fun _ h => exec_load24 (v := u) rfl rfl h.vec) hS ?_
   simp only [Act.put, ap1, ap2, ap3]
   refine held_tk 1 30 (.pointer (some ⟨ps, 16, none⟩)) rfl rfl (by kernel_rfl) (fun _ _ _ h => h) (fun _ _ => (by kernel_rfl)) hS ?_
   simp only [Act.put, ap1, ap2, ap3]
   refine held_tk 2 31 (.slice a n c) rfl rfl (by kernel_rfl) (fun _ _ _ h => h) (fun _ h => exec_cell rfl rfl (load_cell (by kernel_rfl) (stc16 h.st))) hS ?_
   simp only [Act.put, ap1, ap2, ap3]
   refine held_tk 3 32 (.agg o.arr) rfl rfl (by kernel_rfl) (fun _ _ _ h => h) (fun _ h => exec_load33 (p := o) rfl rfl h.op) hS ?_
   simp only [Act.put, ap1, ap2, ap3]
   refine held_tk 5 34 (.pointer (some ⟨ps, 17, none⟩)) rfl rfl (by kernel_rfl) (fun _ _ _ h => h) (fun _ _ => (by kernel_rfl)) hS ?_
   simp only [Act.put, ap1, ap2, ap3]
   refine held_tk 6 35 (.slice b m d) rfl rfl (by kernel_rfl) (fun _ _ _ h => h) (fun _ h => exec_cell rfl rfl (load_cell (by kernel_rfl) (stc17 h.st))) hS ?_
   simp only [Act.put, ap1, ap2, ap3]
   refine held_tk 7 36 (.agg o.arr) rfl rfl (by kernel_rfl) (fun _ _ _ h => h) (fun _ h => exec_load33 (p := o) rfl rfl h.op) hS ?_
   simp only [Act.put, ap1, ap2, ap3]
   refine held_callP 4 33 42 #[.slice a n c, .agg o.arr] rfl (by kernel_rfl) rfl (by kernel_rfl) (by kernel_rfl) (applyEntries_any (HL.out.es.below (H5.out.old.trans ((drew_below w4).mono H5.out.old.size))) (by omega) HR.out.ord o (ready_new HR.out HER.out) (ready_lays HER.out)) (fun e w5 hP => ?_)
   obtain ⟨a5, c5, rfl, ho5, hb5⟩ := hP
   refine ⟨_, rfl, hS.below hb5, fun hS => ?_⟩
   simp only [Act.put, ap1, ap2, ap3]
   have HB5 : Hid (Below w.heap.size w w5) := Lib.hid ((H5.out.old.trans ((drew_below w4).mono H5.out.old.size)).trans (hb5.mono H5.out.old.size))
   refine held_callP 8 37 43 #[.slice b m d, .agg o.arr] rfl (by kernel_rfl) rfl (by kernel_rfl) (by kernel_rfl) (applyTick_any (HL.out.ts.below HB5.out) (by omega) HR.out.ts.up o) (fun e w6 hP => ?_)
   obtain ⟨a6, c6, rfl, ho6, hb6⟩ := hP
   refine ⟨_, rfl, hS.below hb6, fun hS => ?_⟩
   simp only [Act.put, ap1, ap2, ap3]
   have HB6 : Hid (Below w.heap.size w w6) := Lib.hid (HB5.out.trans (hb6.mono HB5.out.size))
   have HRES : Hid (Blk w6 pr 39 (sv z none 0 0 none 0 0)) := Lib.hid (((H5.out.res.below (drew_below w4)).below hb5).below hb6)
   have HO5 : Hid (OwnG w6 72 7 w.heap.size a5 (cellsE (applyE s.es o)).length c5 (cellsE (applyE s.es o))) := Lib.hid ((ho5.below hb6).mono (Nat.le_trans H5.out.old.size (Nat.le_refl _)))
   have HO6 : Hid (OwnG w6 96 2 w.heap.size a6 (cellsL (ticked (tickO o) s.ts)).length c6 (cellsL (ticked (tickO o) s.ts))) := Lib.hid (ho6.mono HB5.out.size)
   have HNE5 : Hid (∀ ad, a5 = some ad → ¬ ad.block = pr) := Lib.hid (fun ad e => by have := (ho5.lt ad e).1; have := HRES.out.lt; have h9 := H5.out.res.lt; have : w4.drew.heap.size = w4.heap.size := rfl; omega)
   have HNE6 : Hid (∀ ad, a6 = some ad → ¬ ad.block = pr) := Lib.hid (fun ad e => by have := (ho6.lt ad e).1; have h9 := H5.out.res.lt; have := hb5.size; have : w4.drew.heap.size = w4.heap.size := rfl; omega)
   clear ho5 ho6 hb5 hb6
   refine held_tk 9 38 (.agg (sv u a5 (cellsE (applyE s.es o)).length c5 a6 (cellsL (ticked (tickO o) s.ts)).length c6)) rfl rfl (by kernel_rfl) (fun _ _ _ h => h) (fun _ _ => exec_build39 rfl rfl rfl rfl) hS ?_
   simp only [Act.put, ap1, ap2, ap3]
   have hks := Kept.setRow w6 pr (sv u a5 (cellsE (applyE s.es o)).length c5 a6 (cellsL (ticked (tickO o) s.ts)).length c6)
   refine held_void 10 rfl rfl (by kernel_rfl) (by kernel_rfl) (exec_store39 rfl rfl rfl HRES.out) ⟨hS.st.kept hks (by have := HPS.out; omega), hS.op.kept hks (by have := HPS.out; omega), hS.vec.kept hks (by have := HRV.out; omega)⟩ ?_
   have HSX := Lib.hid (show Ax (w6.setRow pr (sv u a5 (cellsE (applyE s.es o)).length c5 a6 (cellsL (ticked (tickO o) s.ts)).length c6)) s o u ps po pv a n c b m d from ⟨hS.st.kept hks (by have := HPS.out; omega), hS.op.kept hks (by have := HPS.out; omega), hS.vec.kept hks (by have := HRV.out; omega)⟩)
   have HF : Hid (StP (appS s o) (appE s o) w (.returned (.tuple #[.agg (sv u a5 (cellsE (applyE s.es o)).length c5 a6 (cellsL (ticked (tickO o) s.ts)).length c6), .int .i64 0])) (w6.setRow pr (sv u a5 (cellsE (applyE s.es o)).length c5 a6 (cellsL (ticked (tickO o) s.ts)).length c6))) := Lib.hid (by
    have e1 : appS s o = applyS s o := by unfold appS; rw [if_pos HE2.out]
    rw [e1, HE2.out]
    refine ⟨a5, _, c5, a6, _, c6, by rw [show (applyS s o).v = u from HU.out.symm]; rfl, HO5.out.keep hks HNE5.out, HO6.out.keep hks HNE6.out, HB6.out.trans (hks.below HB6.out.size (fun k hk => by have := HPS.out; omega))⟩)
   have HRB : Hid (Blk (w6.setRow pr (sv u a5 (cellsE (applyE s.es o)).length c5 a6 (cellsL (ticked (tickO o) s.ts)).length c6)) pr 39 (sv u a5 (cellsE (applyE s.es o)).length c5 a6 (cellsL (ticked (tickO o) s.ts)).length c6)) := Lib.hid HRES.out.row
   generalize w6.setRow pr (sv u a5 (cellsE (applyE s.es o)).length c5 a6 (cellsL (ticked (tickO o) s.ts)).length c6) = w7 at HF HRB hks HSX
   clear hks hS
   refine held_tk 11 5 (.int .i64 0) rfl rfl (by kernel_rfl) (fun _ _ _ h => h) (fun _ _ => rfl) HSX.out ?_
   simp only [Act.put, ap1, ap2, ap3]
   refine wpAnyH_done (by kernel_rfl) ?_ _
   go_wp2_with fail
   exact bodyPost_ret (v := .tuple #[.agg (sv u a5 (cellsE (applyE s.es o)).length c5 a6 (cellsL (ticked (tickO o) s.ts)).length c6), .int .i64 0]) (ret39_two rfl rfl rfl HRB.out) rfl HF.out
  ·have hne : ((er : Int) != 0) = true := by simp [h0]
   go_wp2_with (first | (refine wpList_run rfl (exec_zero39 HZ.out rfl) ?_) | (refine wpList_stop39 rfl ?_))
   refine ⟨?_⟩
   refine wpList_void rfl rfl (exec_store39 (u := z) (a := none) (n := 0) (c := 0) (b := none) (m := 0) (d := 0) rfl rfl rfl H3.out.res) ?_
   have hks := Kept.setRow w2 pr (sv z none 0 0 none 0 0)
   have HB3 : Hid (Below w.heap.size w (w2.setRow pr (sv z none 0 0 none 0 0))) := Lib.hid (H3.out.old.trans (hks.below H3.out.old.size (fun k hk => by have := HPS.out; omega)))
   have HR3 : Hid (Blk (w2.setRow pr (sv z none 0 0 none 0 0)) pr 39 (sv z none 0 0 none 0 0)) := Lib.hid H3.out.res.row
   generalize w2.setRow pr (sv z none 0 0 none 0 0) = w3 at HB3 HR3 hks
   clear hks
   go_wp2_with fail
   exact bodyPost_ret (v := .tuple #[.agg (sv z none 0 0 none 0 0), .int .i64 (er : Int)]) (ret39_two rfl rfl rfl HR3.out) rfl (HZE.out er _ HE2.out h0 HB3.out)
end Go.Proofs.YtnekpgmgnepdoaaGreat
end
section
namespace Go.Proofs.YtnekpgmgnepdoaaGreat
open Go.RowKit
inductive MgA (s t : Sta) : Nat → Sta → Prop where
 | ok {m : Sta} (h1 : s.Right) (h2 : t.Right) (hc : ¬ Clash s t) (h : Merg s t m) : MgA s t 0 m
 | clash (h1 : s.Right) (h2 : t.Right) (hc : Clash s t) : MgA s t 5 Sta.zero
 | not (h : ¬ (s.Right ∧ t.Right)) : MgA s t 2 Sta.zero
def MgP (s t : Sta) (w : World) (e : Ending) (w' : World) : Prop := ∃ er m, MgA s t er m ∧ StP m er w e w'
structure Mx (W : World) (s t : Sta) (p0 p1 : Nat) (a : Option Addr) (n c : Nat) (b : Option Addr) (m d : Nat) (a2 : Option Addr) (n2 c2 : Nat) (b2 : Option Addr) (m2 d2 : Nat) : Prop where
 sa : Blk W p0 39 (sv s.v a n c b m d)
 sb : Blk W p1 39 (sv t.v a2 n2 c2 b2 m2 d2)
theorem Mx.below {W W' : World} {s t : Sta} {p0 p1 n c m d n2 c2 m2 d2 : Nat} {a b a2 b2 : Option Addr} (h : Mx W s t p0 p1 a n c b m d a2 n2 c2 b2 m2 d2) (hb : Below W.heap.size W W') : Mx W' s t p0 p1 a n c b m d a2 n2 c2 b2 m2 d2 := ⟨h.sa.below hb, h.sb.below hb⟩
structure Mx0 (w W : World) (s t : Sta) (p0 p1 pr : Nat) (a : Option Addr) (n c : Nat) (b : Option Addr) (m d : Nat) (a2 : Option Addr) (n2 c2 : Nat) (b2 : Option Addr) (m2 d2 : Nat) (z : V) : Prop where
 sa : Blk W p0 39 (sv s.v a n c b m d)
 sb : Blk W p1 39 (sv t.v a2 n2 c2 b2 m2 d2)
 res : Blk W pr 39 (sv z none 0 0 none 0 0)
 old : Below w.heap.size w W
theorem Mx0.below {w W W' : World} {s t : Sta} {p0 p1 pr n c m d n2 c2 m2 d2 : Nat} {a b a2 b2 : Option Addr} {z : V} (h : Mx0 w W s t p0 p1 pr a n c b m d a2 n2 c2 b2 m2 d2 z) (hb : Below W.heap.size W W') : Mx0 w W' s t p0 p1 pr a n c b m d a2 n2 c2 b2 m2 d2 z := ⟨h.sa.below hb, h.sb.below hb, h.res.below hb, h.old.trans (hb.mono h.old.size)⟩
theorem mx0_new (w : World) (s t : Sta) (a : Option Addr) (n c : Nat) (b : Option Addr) (m d : Nat) (a2 : Option Addr) (n2 c2 : Nat) (b2 : Option Addr) (m2 d2 : Nat) (z : V) : Mx0 w (((w.alloc (.cells (sv s.v a n c b m d) 39)).alloc (.cells (sv t.v a2 n2 c2 b2 m2 d2) 39)).alloc (.cells (sv z none 0 0 none 0 0) 39)) s t w.heap.size (w.heap.size + 1) (w.heap.size + 1 + 1) a n c b m d a2 n2 c2 b2 m2 d2 z := by
 have h1 := Blk.new w 39 (sv s.v a n c b m d)
 have h2 := Blk.new (w.alloc (.cells (sv s.v a n c b m d) 39)) 39 (sv t.v a2 n2 c2 b2 m2 d2)
 have h3 := Blk.new ((w.alloc (.cells (sv s.v a n c b m d) 39)).alloc (.cells (sv t.v a2 n2 c2 b2 m2 d2) 39)) 39 (sv z none 0 0 none 0 0)
 have b2' := below_one (w.alloc (.cells (sv s.v a n c b m d) 39)) (.cells (sv t.v a2 n2 c2 b2 m2 d2) 39)
 have b3 := below_one ((w.alloc (.cells (sv s.v a n c b m d) 39)).alloc (.cells (sv t.v a2 n2 c2 b2 m2 d2) 39)) (.cells (sv z none 0 0 none 0 0) 39)
 simp only [World.size_alloc] at h2 h3
 exact ⟨(h1.below b2').below b3, h2.below b3, h3, ((below_one w _).trans (b2'.mono (by simp))).trans (b3.mono (by simp; omega))⟩
set_option maxRecDepth 100000 in
set_option maxHeartbeats 8000000 in
theorem merge_any {s t : Sta} {a b a2 b2 : Option Addr} {n c m d n2 c2 m2 d2 : Nat} {w : World} (hs : SL w s a n b m) (ht : SL w t a2 n2 b2 m2) (hn : n < 100) (hm : m < 200000) (hn2 : n2 < 100) (hm2 : m2 < 200000) : Calls Tryz.prog 21 #[.agg (sv s.v a n c b m d), .agg (sv t.v a2 n2 c2 b2 m2 d2)] w (MgP s t w) := by
 have HS := Lib.hid hs
 have HT := Lib.hid ht
 obtain ⟨z, hz⟩ : ∃ z, V.zero = z := ⟨_, rfl⟩
 have HZ := Lib.hid hz
 have hb1 := fun (v : V) x y w => box39 v x y w
 have H0 := Lib.hid (mx0_new w s t a n c b m d a2 n2 c2 b2 m2 d2 z)
 have HZE : Hid (∀ er W, MgA s t er Sta.zero → Below w.heap.size w W → MgP s t w (.returned (.tuple #[.agg (sv z none 0 0 none 0 0), .int .i64 (er : Int)])) W) := Lib.hid (fun er W he hb =>
  ⟨er, _, he, none, 0, 0, none, 0, 0, by rw [← hz]; rfl, ownG_nil _ _ _ _, ownG_nil _ _ _ _, hb⟩)
 clear hs ht hz
 go_enter Tryz.func21, Tryz.ntmps21
 go_upto_region 1 with (refine wpList_run rfl (exec_alloc39z HZ.out rfl) ?_)
 clear hb1
 generalize ((w.alloc (.cells (sv s.v a n c b m d) 39)).alloc (.cells (sv t.v a2 n2 c2 b2 m2 d2) 39)).alloc (.cells (sv z none 0 0 none 0 0) 39) = w0 at H0
 obtain ⟨p0, hp0⟩ : ∃ p, w.heap.size = p := ⟨_, rfl⟩
 obtain ⟨p1, hp1⟩ : ∃ p, p0 + 1 = p := ⟨_, rfl⟩
 obtain ⟨pr, hpr⟩ : ∃ p, p1 + 1 = p := ⟨_, rfl⟩
 have HPS : Hid (w.heap.size = p0 ∧ p0 + 1 = p1 ∧ p1 + 1 = pr) := Lib.hid ⟨hp0, hp1, hpr⟩
 have H1 : Hid (Mx0 w w0 s t p0 p1 pr a n c b m d a2 n2 c2 b2 m2 d2 z) := Lib.hid (by have h := H0.out; rw [hp0, hp1, hpr] at h; exact h)
 rw [hp0, hp1, hpr]
 clear hp0 hp1 hpr H0
 go_wp2_with (refine wpList_run rfl (exec_load39 rfl rfl H1.out.sa) ?_)
 refine (right_any' (HS.out.below H1.out.old) hn (by omega)).mono ?_
 rintro e w1 ⟨r, rfl, hr, hb⟩
 have H2 := Lib.hid (H1.out.below hb)
 clear hb H1
 cases r
 ·have HF : Hid (MgA s t 2 Sta.zero) := Lib.hid (.not (fun h => by have := hr.2 h.1; cases this))
  clear hr
  go_wp2_with (first | (refine wpList_run rfl (exec_zero39 HZ.out rfl) ?_) | (refine wpList_stop39 rfl ?_))
  refine ⟨?_⟩
  refine wpList_void rfl rfl (exec_store39 (u := z) (a := none) (n := 0) (c := 0) (b := none) (m := 0) (d := 0) rfl rfl rfl H2.out.res) ?_
  have hks := Kept.setRow w1 pr (sv z none 0 0 none 0 0)
  have HB3 : Hid (Below w.heap.size w (w1.setRow pr (sv z none 0 0 none 0 0))) := Lib.hid (H2.out.old.trans (hks.below H2.out.old.size (fun k hk => by have := HPS.out; omega)))
  have HR3 : Hid (Blk (w1.setRow pr (sv z none 0 0 none 0 0)) pr 39 (sv z none 0 0 none 0 0)) := Lib.hid H2.out.res.row
  generalize w1.setRow pr (sv z none 0 0 none 0 0) = w3 at HB3 HR3 hks
  clear hks
  go_wp2_with fail
  exact bodyPost_ret (v := .tuple #[.agg (sv z none 0 0 none 0 0), .int .i64 ((2 : Nat) : Int)]) (ret39_two rfl rfl rfl HR3.out) rfl (HZE.out 2 _ HF.out HB3.out)
 ·have HR := Lib.hid (hr.1 rfl)
  clear hr
  go_wp2_with (refine wpList_runW (exec_load39 rfl rfl H2.out.sb) (by kernel_rfl) ?_)
  refine (right_any' (HT.out.below H2.out.old) hn2 (by omega)).mono ?_
  rintro e w2 ⟨r, rfl, hr, hb⟩
  have H3 := Lib.hid (H2.out.below hb)
  clear hb H2
  cases r
  ·have HF : Hid (MgA s t 2 Sta.zero) := Lib.hid (.not (fun h => by have := hr.2 h.2; cases this))
   clear hr
   go_wp2_with (first | (refine wpList_run rfl (exec_zero39 HZ.out rfl) ?_) | (refine wpList_stop39 rfl ?_))
   refine ⟨?_⟩
   refine wpList_void rfl rfl (exec_store39 (u := z) (a := none) (n := 0) (c := 0) (b := none) (m := 0) (d := 0) rfl rfl rfl H3.out.res) ?_
   have hks := Kept.setRow w2 pr (sv z none 0 0 none 0 0)
   have HB3 : Hid (Below w.heap.size w (w2.setRow pr (sv z none 0 0 none 0 0))) := Lib.hid (H3.out.old.trans (hks.below H3.out.old.size (fun k hk => by have := HPS.out; omega)))
   have HR3 : Hid (Blk (w2.setRow pr (sv z none 0 0 none 0 0)) pr 39 (sv z none 0 0 none 0 0)) := Lib.hid H3.out.res.row
   generalize w2.setRow pr (sv z none 0 0 none 0 0) = w3 at HB3 HR3 hks
   clear hks
   go_wp2_with fail
   exact bodyPost_ret (v := .tuple #[.agg (sv z none 0 0 none 0 0), .int .i64 ((2 : Nat) : Int)]) (ret39_two rfl rfl rfl HR3.out) rfl (HZE.out 2 _ HF.out HB3.out)
  ·have HR2 := Lib.hid (hr.1 rfl)
   clear hr
   have HME := Lib.hid (fun W (hb : Below w.heap.size w W) => mergeEntries_any (c := c) (d := d) (c2 := c2) (d2 := d2) (HS.out.below hb) (HT.out.below hb) (by omega) (by omega) HR.out HR2.out)
   go_wp2_with (first | (refine wpList_run rfl (exec_load39 (v := s.v) rfl rfl H3.out.sa) ?_) | (refine wpList_run rfl (exec_load39 (v := t.v) rfl rfl H3.out.sb) ?_))
   refine (HME.out _ H3.out.old).mono ?_
   rintro e w4 (⟨hcl, rfl, hb⟩ | ⟨hcl, a5, n5, c5, es, rfl, ho5, hord, hmem, hb⟩)
   ·have H4 := Lib.hid (H3.out.below hb)
    have HF : Hid (MgA s t 5 Sta.zero) := Lib.hid (.clash HR.out HR2.out hcl)
    clear hb hcl H3 HME
    go_wp2_with (first | (refine wpList_run rfl (exec_zero39 HZ.out rfl) ?_) | (refine wpList_stop39 rfl ?_))
    refine ⟨?_⟩
    refine wpList_void rfl rfl (exec_store39 (u := z) (a := none) (n := 0) (c := 0) (b := none) (m := 0) (d := 0) rfl rfl rfl H4.out.res) ?_
    have hks := Kept.setRow w4 pr (sv z none 0 0 none 0 0)
    have HB3 : Hid (Below w.heap.size w (w4.setRow pr (sv z none 0 0 none 0 0))) := Lib.hid (H4.out.old.trans (hks.below H4.out.old.size (fun k hk => by have := HPS.out; omega)))
    have HR3 : Hid (Blk (w4.setRow pr (sv z none 0 0 none 0 0)) pr 39 (sv z none 0 0 none 0 0)) := Lib.hid H4.out.res.row
    generalize w4.setRow pr (sv z none 0 0 none 0 0) = w3 at HB3 HR3 hks
    clear hks
    go_wp2_with fail
    exact bodyPost_ret (v := .tuple #[.agg (sv z none 0 0 none 0 0), .int .i64 ((5 : Nat) : Int)]) (ret39_two rfl rfl rfl HR3.out) rfl (HZE.out 5 _ HF.out HB3.out)
   have H4 := Lib.hid (H3.out.below hb)
   have HCL := Lib.hid hcl
   have HORD := Lib.hid hord
   have HMEM := Lib.hid hmem
   have HO5 := Lib.hid ho5
   have HW3 : Hid (w.heap.size ≤ w2.heap.size) := Lib.hid H3.out.old.size
   have HRW : Hid (pr < w2.heap.size) := Lib.hid H3.out.res.lt
   clear hb hcl hord hmem ho5 H3 HME
   go_wp2_with fail
   have HAX : Hid (Mx w4 s t p0 p1 a n c b m d a2 n2 c2 b2 m2 d2) := Lib.hid ⟨H4.out.sa, H4.out.sb⟩
   refine wp_region_held_drew (S := fun w' => Mx w' s t p0 p1 a n c b m d a2 n2 c2 b2 m2 d2) (by kernel_rfl) (HAX.out.below (drew_below _)) (fun hS => ?_)
   refine held_tk 0 27 (.pointer (some ⟨p0, 0, none⟩)) rfl rfl (by kernel_rfl) (fun _ _ _ h => h) (fun _ _ => (by kernel_rfl)) hS ?_
   simp only [Act.put, ap1, ap2, ap3]
   refine held_tk 1 28 (.agg s.v.arr) rfl rfl (by kernel_rfl) (fun _ _ _ h => h) (fun _ h => exec_stV (v := s.v) rfl rfl h.sa) hS ?_
   simp only [Act.put, ap1, ap2, ap3]
   refine held_tk 2 29 (.pointer (some ⟨p1, 0, none⟩)) rfl rfl (by kernel_rfl) (fun _ _ _ h => h) (fun _ _ => (by kernel_rfl)) hS ?_
   simp only [Act.put, ap1, ap2, ap3]
   refine held_tk 3 30 (.agg t.v.arr) rfl rfl (by kernel_rfl) (fun _ _ _ h => h) (fun _ h => exec_stV (v := t.v) rfl rfl h.sb) hS ?_
   simp only [Act.put, ap1, ap2, ap3]
   refine held_tk 5 32 (.slice a5 n5 c5) rfl rfl (by kernel_rfl) (fun _ _ _ h => h) (fun _ _ => rfl) hS ?_
   simp only [Act.put, ap1, ap2, ap3]
   refine held_tk 6 33 (.pointer (some ⟨p0, 17, none⟩)) rfl rfl (by kernel_rfl) (fun _ _ _ h => h) (fun _ _ => (by kernel_rfl)) hS ?_
   simp only [Act.put, ap1, ap2, ap3]
   refine held_tk 7 34 (.slice b m d) rfl rfl (by kernel_rfl) (fun _ _ _ h => h) (fun _ h => exec_cell rfl rfl (load_cell (by kernel_rfl) (stc17 h.sa))) hS ?_
   simp only [Act.put, ap1, ap2, ap3]
   refine held_tk 8 35 (.pointer (some ⟨p1, 17, none⟩)) rfl rfl (by kernel_rfl) (fun _ _ _ h => h) (fun _ _ => (by kernel_rfl)) hS ?_
   simp only [Act.put, ap1, ap2, ap3]
   refine held_tk 9 36 (.slice b2 m2 d2) rfl rfl (by kernel_rfl) (fun _ _ _ h => h) (fun _ h => exec_cell rfl rfl (load_cell (by kernel_rfl) (stc17 h.sb))) hS ?_
   simp only [Act.put, ap1, ap2, ap3]
   obtain ⟨u, hu⟩ : ∃ u, V.join s.v t.v = u := ⟨_, rfl⟩
   have HJ := Lib.hid (fun w => join_any s.v t.v w)
   rw [hu] at HJ
   have HU := Lib.hid hu
   clear hu
   refine held_callP 4 31 57 #[.agg s.v.arr, .agg t.v.arr] rfl (by kernel_rfl) rfl (by kernel_rfl) (by kernel_rfl) (HJ.out _) (fun e w5 hP => ?_)
   obtain ⟨rfl, hb5⟩ := hP
   refine ⟨_, rfl, hS.below hb5, fun hS => ?_⟩
   simp only [Act.put, ap1, ap2, ap3]
   have HB5 : Hid (Below w.heap.size w w5) := Lib.hid ((H4.out.old.trans ((drew_below w4).mono H4.out.old.size)).trans (hb5.mono H4.out.old.size))
   have HO5b := Lib.hid ((HO5.out.below (drew_below w4)).below hb5)
   have HRS5 := Lib.hid ((H4.out.res.below (drew_below w4)).below hb5)
   have HR5 : Hid (pr < w5.heap.size) := Lib.hid HRS5.out.lt
   refine held_callP 10 37 58 #[.slice b m d, .slice b2 m2 d2] rfl (by kernel_rfl) rfl (by kernel_rfl) (by kernel_rfl) (mergeTicks_any (HS.out.ts.below HB5.out) (HT.out.ts.below HB5.out) (by omega) HR.out.ts.up HR2.out.ts.up) (fun e w6 hP => ?_)
   obtain ⟨a6, n6, c6, ts, rfl, ho6, hup, htk, hb6⟩ := hP
   refine ⟨_, rfl, hS.below hb6, fun hS => ?_⟩
   simp only [Act.put, ap1, ap2, ap3]
   have HB6 : Hid (Below w.heap.size w w6) := Lib.hid (HB5.out.trans (hb6.mono HB5.out.size))
   have HRES : Hid (Blk w6 pr 39 (sv z none 0 0 none 0 0)) := Lib.hid (HRS5.out.below hb6)
   have HOE : Hid (OwnG w6 72 7 w.heap.size a5 n5 c5 (cellsE es)) := Lib.hid ((HO5b.out.below hb6).mono HW3.out)
   have HOT : Hid (OwnG w6 96 2 w.heap.size a6 n6 c6 (cellsL ts)) := Lib.hid (ho6.mono HB5.out.size)
   have HNE5 : Hid (∀ ad, a5 = some ad → ¬ ad.block = pr) := Lib.hid (fun ad e => by have := (HO5.out.lt ad e).1; have := HRW.out; omega)
   have HNE6 : Hid (∀ ad, a6 = some ad → ¬ ad.block = pr) := Lib.hid (fun ad e => by have := (ho6.lt ad e).1; have := HR5.out; omega)
   have HMG : Hid (MgA s t 0 ⟨u, es, ts⟩) := Lib.hid (.ok HR.out HR2.out HCL.out ⟨HU.out.symm, HORD.out, HMEM.out, hup, fun c => by rw [htk c]; rfl⟩)
   clear ho6 hup htk hb5 hb6 HO5 HO5b HRS5
   refine held_tk 11 38 (.agg (sv u a5 n5 c5 a6 n6 c6)) rfl rfl (by kernel_rfl) (fun _ _ _ h => h) (fun _ _ => exec_build39 rfl rfl rfl rfl) hS ?_
   simp only [Act.put, ap1, ap2, ap3]
   have hks := Kept.setRow w6 pr (sv u a5 n5 c5 a6 n6 c6)
   have HSX := Lib.hid (show Mx (w6.setRow pr (sv u a5 n5 c5 a6 n6 c6)) s t p0 p1 a n c b m d a2 n2 c2 b2 m2 d2 from ⟨hS.sa.kept hks (by have := HPS.out; omega), hS.sb.kept hks (by have := HPS.out; omega)⟩)
   refine held_void 12 rfl rfl (by kernel_rfl) (by kernel_rfl) (exec_store39 rfl rfl rfl HRES.out) HSX.out ?_
   have HF : Hid (MgP s t w (.returned (.tuple #[.agg (sv u a5 n5 c5 a6 n6 c6), .int .i64 0])) (w6.setRow pr (sv u a5 n5 c5 a6 n6 c6))) := Lib.hid ⟨0, _, HMG.out, a5, n5, c5, a6, n6, c6, rfl, HOE.out.keep hks HNE5.out, HOT.out.keep hks HNE6.out, HB6.out.trans (hks.below HB6.out.size (fun k hk => by have := HPS.out; omega))⟩
   have HRB : Hid (Blk (w6.setRow pr (sv u a5 n5 c5 a6 n6 c6)) pr 39 (sv u a5 n5 c5 a6 n6 c6)) := Lib.hid HRES.out.row
   generalize w6.setRow pr (sv u a5 n5 c5 a6 n6 c6) = w7 at HF HRB hks HSX
   clear hks hS
   refine held_tk 13 5 (.int .i64 0) rfl rfl (by kernel_rfl) (fun _ _ _ h => h) (fun _ _ => rfl) HSX.out ?_
   simp only [Act.put, ap1, ap2, ap3]
   refine wpAnyH_done (by kernel_rfl) ?_ _
   go_wp2_with fail
   exact bodyPost_ret (v := .tuple #[.agg (sv u a5 n5 c5 a6 n6 c6), .int .i64 0]) (ret39_two rfl rfl rfl HRB.out) rfl HF.out
end Go.Proofs.YtnekpgmgnepdoaaGreat
end
section
namespace Go.Proofs.YtnekpgmgnepdoaaGreat
open Go.RowKit
theorem neB {a b : Nat} (h : ¬ a = b) : ((a : Int) != (b : Int)) = true := by simp; omega
theorem eqB' {a b : Nat} (h : a = b) : ((a : Int) != (b : Int)) = false := by simp; omega
theorem below_2 (w : World) (o u : Obj) : Below w.heap.size w ((w.alloc o).alloc u) := (below_one w o).trans ((below_one (w.alloc o) u).mono (by simp))
end Go.Proofs.YtnekpgmgnepdoaaGreat
end
section
namespace Go.Proofs.YtnekpgmgnepdoaaGreat
open Go.RowKit
theorem cellsL_app (l m : List La) : cellsL (l ++ m) = cellsL l ++ cellsL m := by unfold cellsL; exact List.map_append
end Go.Proofs.YtnekpgmgnepdoaaGreat
end
section
namespace Go.Proofs.YtnekpgmgnepdoaaGreat
open Go.RowKit
theorem sv_es (v : V) (x y z : Value) : (stA v x y).setIfInBounds 16 z = stA v z y := by
 simp only [List.setIfInBounds_toArray]
 unfold stC
 rw [List.set_append_right _ _ (by rw [v.cs_len]; omega), v.cs_len]
 rfl
theorem sv_ts (v : V) (x y z : Value) : (stA v x y).setIfInBounds 17 z = stA v x z := by
 simp only [List.setIfInBounds_toArray]
 unfold stC
 rw [List.set_append_right _ _ (by rw [v.cs_len]; omega), v.cs_len]
 rfl
end Go.Proofs.YtnekpgmgnepdoaaGreat
end
section
namespace Go.Proofs.YtnekpgmgnepdoaaGreat
open Go.RowKit
theorem setCells_blk {t : TypeId} {g : Nat} : ∀ (zs xs ys : List Value) (w : World), zs.length = ys.length → Blk w g t (xs ++ ys).toArray → Blk (w.setCells g xs.length zs) g t (xs ++ zs).toArray
 | [], xs, ys, w, h, hb => by
  obtain rfl : ys = [] := List.eq_nil_of_length_eq_zero h.symm
  exact hb
 | z :: zs, xs, [], w, h, hb => by simp at h
 | z :: zs, xs, y :: ys, w, h, hb => by
  have h1 := hb.set xs.length z
  have e : (xs ++ y :: ys).toArray.setIfInBounds xs.length z = ((xs ++ [z]) ++ ys).toArray := by simp
  rw [e] at h1
  have ih := setCells_blk zs (xs ++ [z]) ys _ (by simpa using h) h1
  simpa [World.setCells] using ih
theorem Kept.setRange {g : Nat} : ∀ (zs : List Value) (o : Nat) (w : World), Kept (fun k => k = g) w (w.setCells g o zs)
 | [], _, _ => Kept.refl _ _
 | z :: zs, o, w => (Kept.setCell w ⟨g, o, Option.none⟩ z).trans (Kept.setRange zs (o + 1) _) (fun _ h => .inl h)
theorem Blk.there {w : World} {g : Nat} {t : TypeId} {cs : Array Value} (h : Blk w g t cs) {o n : Nat} (hn : o + n ≤ cs.size) : w.there g o n := fun j hj => by
 rw [h.cell, h.frozen]
 exact ⟨by rw [Array.getElem?_eq_getElem (by omega)]; rfl, rfl⟩
structure Ac where
 n : Nat
 o : En
 hn : n < 4294967296
def Ac.cs (a : Ac) : List Value := .int .u32 (a.n : Int) :: a.o.cs
abbrev Ac.arr (a : Ac) : Array Value := a.cs.toArray
def Ac.zero : Ac := ⟨0, En.zero, by omega⟩
theorem Ac.cs_len (a : Ac) : a.cs.length = 8 := by simp [Ac.cs, a.o.cs_len]
theorem Ac.arr_size (a : Ac) : a.arr.size = 8 := by simp [a.cs_len]
theorem Ac.arr_one (a : Ac) : a.arr.all (·.oneCell') = true := by
 refine all_oneCell_toArray fun u hu => ?_
 rcases List.mem_cons.1 hu with rfl | h
 ·rfl
 ·exact a.o.one_cs u (by simpa using h)
theorem size116 : (Tryz.prog.info? 116).map (·.size) = some 8 := by kernel_rfl
theorem und116 : Tryz.prog.underlying 116 = some (.struct (Tryz.prog.fieldsOf 116)) := by kernel_rfl
theorem zero_aarr : Ac.zero.arr = #[.int .u32 0, .int .u16 0, .int .u16 0, .int .u16 0, .int .u8 0, .int .u8 0, .int .u32 0, .int .u64 0] := by kernel_rfl
theorem info116 : (Tryz.prog.info? 116).map (fun i => (i.zero, i.size)) = some (some (.agg Ac.zero.arr), 8) := by rw [zero_aarr]; kernel_rfl
theorem zero116 (w : World) : (zeroValue 116).run Tryz.prog w = .ok (.agg Ac.zero.arr) w := (zero_of_info info116).1 w
theorem box116 (a : Ac) (w : World) : (Instr.box 116 (.agg a.arr)).run Tryz.prog w = .ok (.pointer (some ⟨w.heap.size, 0, none⟩)) (w.alloc (.cells a.arr 116)) := by
 simp [Instr.box, newVar, newRow, Value.cells, go_sem]
theorem alloc116 (w : World) : (Instr.alloc 116 true (.tuple #[])).run Tryz.prog w = .ok (.pointer (some ⟨w.heap.size, 0, none⟩)) (w.alloc (.cells Ac.zero.arr 116)) := by
 simp only [Instr.alloc, Sem.run_bind, (zero_of_info info116).1, Result.andThen_ok]
 simp [newVar, newRow, Value.cells, go_sem]
theorem load116 {w : World} {g : Nat} {a : Ac} (h : Blk w g 116 a.arr) : (Instr.loadAt 116 (.pointer (some ⟨g, 0, none⟩))).run Tryz.prog w = .ok (.agg a.arr) w := by
 have hi : (Tryz.prog.info? 116).map (·.size) = some a.arr.size := by rw [a.arr_size]; exact size116
 simp only [Instr.loadAt, Instr.sureAddr, Sem.run_bind, Sem.run_pure, Result.andThen]
 exact run_loadVar_row _ _ 116 116 a.arr (0, 0) _ h und116 rfl hi
theorem loadVar116 {w : World} {g : Nat} {a : Ac} (h : Blk w g 116 a.arr) : (loadVar 116 ⟨g, 0, none⟩).run Tryz.prog w = .ok (.agg a.arr) w := by
 have hi : (Tryz.prog.info? 116).map (·.size) = some a.arr.size := by rw [a.arr_size]; exact size116
 exact run_loadVar_row _ _ 116 116 a.arr (0, 0) _ h und116 rfl hi
theorem store116 {w : World} {g : Nat} {a b : Ac} (h : Blk w g 116 a.arr) : (Instr.storeAt 116 (.pointer (some ⟨g, 0, none⟩)) (.agg b.arr)).run Tryz.prog w = .ok () (w.setRow g b.arr) := by
 have hi : (Tryz.prog.info? 116).map (·.size) = some b.arr.size := by rw [b.arr_size]; exact size116
 simp only [Instr.storeAt, Instr.sureAddr, Sem.run_bind, Sem.run_pure, Result.andThen]
 exact run_storeVar_row _ _ 116 116 a.arr b.arr h hi (by rw [a.arr_size, b.arr_size]) b.arr_one
theorem ret116 {fn : Func} {t : Tmp} (h : fn.results = #[.cell t 116]) {tmps : Array Value} {w : World} {g : Nat} {a : Ac} (hx : tmps.getD t undef = .pointer (some ⟨g, 0, none⟩)) (hb : Blk w g 116 a.arr) :
  (results fn tmps).run Tryz.prog w = .ok (.agg a.arr) w := by
 have hx' : tmps[t]?.getD undef = .pointer (some ⟨g, 0, none⟩) := by rw [← hx]; simp [Array.getD_eq_getD_getElem?]
 simp only [results, h]
 simp [hx', asAddr, loadVar116 hb]
section
variable {ev : Operand → Value} {q : Oper} {w : World}
theorem exec_load116 {x : Operand} {g : Nat} {a : Ac} (ho : q.op = .load 116 x) (hx : ev x = .pointer (some ⟨g, 0, none⟩)) (h : Blk w g 116 a.arr) : (execOp ev q).run Tryz.prog w = .ok (.value (.agg a.arr)) w := exec_cell ho hx (load116 h)
theorem exec_alloc116z {z : Ac} (hz : Ac.zero = z) (ho : q.op = .alloc 116) : (execOp ev q).run Tryz.prog w = .ok (.value (.pointer (some ⟨w.heap.size, 0, none⟩))) (w.alloc (.cells z.arr 116)) := by
 subst hz
 unfold execOp
 simp only [ho, Sem.run_bind, alloc116, Result.andThen_ok]
 rfl
theorem exec_store116 {x y : Operand} {g : Nat} {a b : Ac} (ho : q.op = .store 116 x y) (hx : ev x = .pointer (some ⟨g, 0, none⟩)) (hy : ev y = .agg b.arr) (h : Blk w g 116 a.arr) : (execOp ev q).run Tryz.prog w = .ok .skip (w.setRow g b.arr) := by
 unfold execOp
 simp only [ho, hx, hy, Sem.run_bind, store116 (b := b) h, Result.andThen_ok]
 rfl
theorem exec_stSet {x y : Operand} {g : Nat} {a : Ac} {p : En} (ho : q.op = .store 72 x y) (hx : ev x = .pointer (some ⟨g, 1, none⟩)) (hy : ev y = .agg p.arr) (h : Blk w g 116 a.arr) : (execOp ev q).run Tryz.prog w = .ok .skip (w.setCells g 1 p.cs) := by
 have hs := run_storeAt_mid (P := Tryz.prog) w g 1 72 p.arr (h.there (by rw [p.arr_size, a.arr_size]; omega)) (by rw [p.arr_size]; exact size72) p.arr_one
 unfold execOp
 simp only [ho, hx, hy, Sem.run_bind, hs, Result.andThen_ok]
 rfl
theorem wpList_stop116 {ops : Array Oper} {rest : List Oper} {o : Oper} {act : Act} {Q : Exit → Act → World → Prop} {W : World} {x : Operand} (_ho : o.op = .load 116 x) (k : Halt_ (wpList Tryz.prog ops Q (o :: rest) act W)) : wpList Tryz.prog ops Q (o :: rest) act W := k.out
end
theorem stSet_blk {w : World} {g : Nat} {a : Ac} {p : En} (h : Blk w g 116 a.arr) : Blk (w.setCells g 1 p.cs) g 116 (⟨a.n, p, a.hn⟩ : Ac).arr :=
 setCells_blk p.cs [.int .u32 (a.n : Int)] a.o.cs w (by rw [p.cs_len, a.o.cs_len]) h
theorem Ac.range {w : World} {g : Nat} {a : Ac} (h : Blk w g 116 a.arr) : w.rangeAt g 1 a.o.cs := fun j u hu => by
 rw [h.cell, Nat.add_comm]
 simpa [Ac.cs] using hu
theorem cc0 {w : World} {g : Nat} {a : Ac} (h : Blk w g 116 a.arr) : w.cell? ⟨g, 0, none⟩ = some (.int .u32 (a.n : Int)) := by rw [h.cell]; rfl
theorem cc3 {w : World} {g : Nat} {a : Ac} (h : Blk w g 116 a.arr) : w.cell? ⟨g, 3, none⟩ = some (.int .u16 (a.o.q : Int)) := by rw [h.cell]; rfl
def Ac.with (a : Ac) (o : En) : Ac := if o.k = 1 then ⟨(a.n + o.q) % 4294967296, a.o, Nat.mod_lt _ (by omega)⟩ else if En.lessB a.o o = true then ⟨a.n, o, a.hn⟩ else a
def Ac.qty (a : Ac) : Nat := (a.n + a.o.q) % 4294967296
structure Wc (w W : World) (a z : Ac) (o : En) : Prop where
 am : Blk W w.heap.size 116 a.arr
 op : Blk W (w.heap.size + 1) 72 o.arr
 ans : Blk W (w.heap.size + 1 + 1) 116 z.arr
 old : Below w.heap.size w W
theorem wc_new (w : World) (a z : Ac) (o : En) : Wc w (((w.alloc (.cells a.arr 116)).alloc (.cells o.arr 72)).alloc (.cells z.arr 116)) a z o := by
 have h1 := Blk.new w 116 a.arr
 have h2 := Blk.new (w.alloc (.cells a.arr 116)) 72 o.arr
 have h3 := Blk.new ((w.alloc (.cells a.arr 116)).alloc (.cells o.arr 72)) 116 z.arr
 have b1 := below_one (w.alloc (.cells a.arr 116)) (.cells o.arr 72)
 have b2 := below_one ((w.alloc (.cells a.arr 116)).alloc (.cells o.arr 72)) (.cells z.arr 116)
 simp only [World.size_alloc] at h2 h3
 exact ⟨(h1.below b1).below b2, h2.below b2, h3, (below_two' _ _ _).trans (b2.mono (by simp; omega))⟩
theorem Wc.below {w W W' : World} {a z : Ac} {o : En} (h : Wc w W a z o) (hb : Below W.heap.size W W') : Wc w W' a z o := ⟨h.am.below hb, h.op.below hb, h.ans.below hb, h.old.trans (hb.mono h.old.size)⟩
theorem Wc.keep {w W W' : World} {a b z : Ac} {o : En} (h : Wc w W a z o) (k : Kept (fun i => i = w.heap.size) W W') (hb : Blk W' w.heap.size 116 b.arr) : Wc w W' b z o :=
 ⟨hb, h.op.kept k (by omega), h.ans.kept k (by omega), h.old.trans (k.below h.old.size (fun j e => by rw [e]; exact Nat.le_refl _))⟩
set_option maxRecDepth 100000 in
set_option maxHeartbeats 2000000 in
theorem cwith_any (a : Ac) (o : En) (w : World) : Calls Tryz.prog 62 #[.agg a.arr, .agg o.arr] w (Says (.agg (a.with o).arr) w) := by
 obtain ⟨z, hz⟩ : ∃ z, Ac.zero = z := ⟨_, rfl⟩
 have HZ := Lib.hid hz
 have hb1 := fun (a : Ac) (w : World) => box116 a w
 have hb2 := fun (o : En) (w : World) => box72 o w
 have HT := Lib.hid (wc_new w a z o)
 have HD : Hid (a.with o = if o.k = 1 then ⟨(a.n + o.q) % 4294967296, a.o, Nat.mod_lt _ (by omega)⟩ else if En.lessB a.o o = true then ⟨a.n, o, a.hn⟩ else a) := Lib.hid rfl
 generalize a.with o = r at HD
 have hq := o.hq
 have hn := a.hn
 clear hz
 go_enter Tryz.func62, Tryz.ntmps62
 go_upto_region 1 with (refine wpList_run rfl (exec_alloc116z HZ.out rfl) ?_)
 clear hb1 hb2
 generalize ((w.alloc (.cells a.arr 116)).alloc (.cells o.arr 72)).alloc (.cells z.arr 116) = W at HT
 have c3 := ent3 HT.out.op
 by_cases h1 : o.k = 1
 ·have q1 : ((o.k : Int) == 1) = true := by simp; omega
  have c0 := cc0 HT.out.am
  have f0 : W.frozen? ⟨w.heap.size, 0, none⟩ = false := HT.out.am.frozen 0
  have c5 := ent2 HT.out.op
  have HD2 : Hid (r = ⟨(a.n + o.q) % 4294967296, a.o, Nat.mod_lt _ (by omega)⟩) := Lib.hid (by rw [HD.out, if_pos h1])
  clear HD h1
  go_wp2_with (refine wpList_stop116 rfl ?_)
  have hks := Kept.setCell W ⟨w.heap.size, 0, none⟩ (.int .u32 (((a.n : Int) + (o.q : Int)) % 4294967296))
  have HW : Hid (Wc w (W.setCell ⟨w.heap.size, 0, none⟩ (.int .u32 (((a.n : Int) + (o.q : Int)) % 4294967296))) r z o) := Lib.hid (HT.out.keep hks (by
   have h := HT.out.am.set 0 (.int .u32 (((a.n : Int) + (o.q : Int)) % 4294967296))
   have e : a.arr.setIfInBounds 0 (.int .u32 (((a.n : Int) + (o.q : Int)) % 4294967296)) = r.arr := by
    rw [HD2.out]
    simp [Ac.arr, Ac.cs]
   rw [e] at h
   exact h))
  clear hks
  generalize W.setCell ⟨w.heap.size, 0, none⟩ (.int .u32 (((a.n : Int) + (o.q : Int)) % 4294967296)) = W2 at HW
  refine ⟨?_⟩
  refine wpList_run rfl (exec_load116 (a := r) rfl rfl HW.out.am) ?_
  refine wpList_void rfl rfl (exec_store116 (a := z) (b := r) rfl rfl rfl HW.out.ans) ?_
  have HR := Lib.hid (HW.out.ans.row (ds := r.arr))
  have HB : Hid (Below w.heap.size w (W2.setRow (w.heap.size + 1 + 1) r.arr)) := Lib.hid (HW.out.old.trans ((Kept.setRow W2 (w.heap.size + 1 + 1) r.arr).below HW.out.old.size (fun j e => by omega)))
  go_wp2_with fail
  exact bodyPost_ret (v := .agg r.arr) (ret116 rfl rfl HR.out) rfl ⟨rfl, HB.out⟩
 ·have q1 : ((o.k : Int) == 1) = false := by simp; omega
  have HR2 := Lib.hid (Ac.range HT.out.am)
  have HD2 : Hid (r = if En.lessB a.o o = true then ⟨a.n, o, a.hn⟩ else a) := Lib.hid (by rw [HD.out, if_neg h1])
  clear HD h1
  go_wp2_with (first | (refine wpList_run rfl (exec_ld72 (p := a.o) rfl rfl HR2.out) ?_) | (refine wpList_run rfl (exec_load72 (p := o) rfl rfl HT.out.op) ?_))
  refine (eless_any a.o o _).mono ?_
  rintro e W3 ⟨rfl, hg3⟩
  have HT3 := Lib.hid (HT.out.below hg3.below)
  clear HT hg3 c3 HR2
  cases hl : En.lessB a.o o
  ·have HW : Hid (Wc w W3 r z o) := Lib.hid (by rw [HD2.out, hl]; exact HT3.out)
   go_wp2_with (refine wpList_stop116 rfl ?_)
   refine ⟨?_⟩
   refine wpList_run rfl (exec_load116 (a := r) rfl rfl HW.out.am) ?_
   refine wpList_void rfl rfl (exec_store116 (a := z) (b := r) rfl rfl rfl HW.out.ans) ?_
   have HR := Lib.hid (HW.out.ans.row (ds := r.arr))
   have HB : Hid (Below w.heap.size w (W3.setRow (w.heap.size + 1 + 1) r.arr)) := Lib.hid (HW.out.old.trans ((Kept.setRow W3 (w.heap.size + 1 + 1) r.arr).below HW.out.old.size (fun j e => by omega)))
   go_wp2_with fail
   exact bodyPost_ret (v := .agg r.arr) (ret116 rfl rfl HR.out) rfl ⟨rfl, HB.out⟩
  ·have HD4 : Hid (r = ⟨a.n, o, a.hn⟩) := Lib.hid (by rw [HD2.out, hl]; rfl)
   clear hl
   go_wp2_with (first | (refine wpList_run rfl (exec_load72 (p := o) rfl rfl HT3.out.op) ?_) | (refine wpList_stop116 rfl ?_) | (refine wpList_stop72 rfl ?_))
   refine ⟨?_⟩
   refine wpList_void rfl rfl (exec_stSet (a := a) (p := o) rfl rfl rfl HT3.out.am) ?_
   have HW : Hid (Wc w (W3.setCells w.heap.size 1 o.cs) r z o) := Lib.hid (HT3.out.keep (Kept.setRange o.cs 1 W3) (by rw [HD4.out]; exact stSet_blk HT3.out.am))
   generalize W3.setCells w.heap.size 1 o.cs = W5 at HW
   go_wp2_with (refine wpList_stop116 rfl ?_)
   refine ⟨?_⟩
   refine wpList_run rfl (exec_load116 (a := r) rfl rfl HW.out.am) ?_
   refine wpList_void rfl rfl (exec_store116 (a := z) (b := r) rfl rfl rfl HW.out.ans) ?_
   have HR := Lib.hid (HW.out.ans.row (ds := r.arr))
   have HB : Hid (Below w.heap.size w (W5.setRow (w.heap.size + 1 + 1) r.arr)) := Lib.hid (HW.out.old.trans ((Kept.setRow W5 (w.heap.size + 1 + 1) r.arr).below HW.out.old.size (fun j e => by omega)))
   go_wp2_with fail
   exact bodyPost_ret (v := .agg r.arr) (ret116 rfl rfl HR.out) rfl ⟨rfl, HB.out⟩
theorem cqty_any (a : Ac) (w : World) : Calls Tryz.prog 65 #[.agg a.arr] w (Says (.int .u32 (a.qty : Int)) w) := by
 have hb1 := fun (a : Ac) (w : World) => box116 a w
 have hbx := Blk.new w 116 a.arr
 have c0 := cc0 hbx
 have c6 := cc3 hbx
 have hq := a.o.hq
 have hn := a.hn
 have HQ : Hid (((a.qty : Nat) : Int) = ((a.n : Int) + (a.o.q : Int)) % 4294967296) := Lib.hid (by unfold Ac.qty; omega)
 clear hbx
 generalize a.qty = y at HQ
 go_enter Tryz.func65, Tryz.ntmps65
 go_wp2_with fail
 go_ret
 exact ⟨ret_int HQ.out.symm, below_one _ _⟩
end Go.Proofs.YtnekpgmgnepdoaaGreat
end
