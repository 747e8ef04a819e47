import Derived.Deep.OwnRows
import Derived.Maps.RangeWalk
import Derived.Maps.Ext
import Derived.Maps.OwnOps
import Derived.Maps.OwnSet
import Derived.DeepKeys4
import Derived.Test.YtnekpgmgnepdoaaGreatZae
import Derived.Test.YtnekpgmgnepdoaaGreatZal
section
namespace Go.Proofs.YtnekpgmgnepdoaaGreat
open Go.RowKit
def SaysIff (P : Prop) (w : World) (e : Ending) (w' : World) : Prop := ∃ b : Bool, e = .returned (.bool b) ∧ (b = true ↔ P) ∧ Below w.heap.size w w'
def En.okB (e : En) : Bool := decide (1 ≤ e.n ∧ e.n ≤ 16777217) && e.shapedB
set_option maxRecDepth 100000 in
set_option maxHeartbeats 1000000 in
theorem rightEntry_any (e : En) (w : World) : Calls Tryz.prog 96 #[.agg e.arr] w (Says (.bool e.okB) w) := by
 have hb1 := fun (o : En) w => box72 o w
 have H1 := Lib.hid (bo_new w 72 e.arr)
 have HL : Hid (e.okB = (decide (1 ≤ e.n ∧ e.n ≤ 16777217) && decide ((e.k = 1 ∧ 1 ≤ e.q) ∨ e.k = 2 ∨ (e.k = 4 ∧ e.i = 0 ∧ e.q = 0)))) := Lib.hid rfl
 generalize e.okB = ok at HL ⊢
 go_enter Tryz.func96, Tryz.ntmps96
 go_upto_region 1 with fail
 clear hb1
 generalize w.alloc (.cells e.arr 72) = W at H1
 have c6 := ent6 H1.out.one
 have c3 := ent3 H1.out.one
 have c2 := ent2 H1.out.one
 have c1 := ent1 H1.out.one
 by_cases h1 : 1 ≤ e.n
 ·have g1 : decide ((e.n : Int) < 1) = false := by simp; omega
  by_cases h2 : e.n ≤ 16777217
  ·have g2 : decide ((16777217 : Int) < (e.n : Int)) = false := by simp; omega
   have H12 := Lib.hid (And.intro h1 h2)
   clear h1 h2
   by_cases k1 : e.k = 1
   ·rw [k1] at c3
    have HE : Hid (ok = decide (1 ≤ e.q)) := Lib.hid (by rw [HL.out, decide_eq_true H12.out, k1]; simp)
    clear k1
    go_wp2_with fail
    go_ret
    exact ⟨ret_bool (by rw [HE.out, Bool.eq_iff_iff]; simp <;> omega), H1.out.old⟩
   ·by_cases k2 : e.k = 2
    ·rw [k2] at c3
     have HE : Hid (ok = true) := Lib.hid (by rw [HL.out, decide_eq_true H12.out, k2]; simp)
     clear k2
     go_wp2_with fail
     go_ret
     exact ⟨ret_bool HE.out.symm, H1.out.old⟩
    ·have q1 : ((e.k : Int) == 1) = false := by rw [beq_eq_false_iff_ne]; omega
     have q2 : ((e.k : Int) == 2) = false := by rw [beq_eq_false_iff_ne]; omega
     by_cases k4 : e.k = 4
     ·rw [k4] at c3
      by_cases hi : e.i = 0
      ·rw [hi] at c1
       have HE : Hid (ok = decide (e.q = 0)) := Lib.hid (by rw [HL.out, decide_eq_true H12.out, k4, hi]; simp)
       clear k4 hi q1 q2
       go_wp2_with fail
       go_ret
       exact ⟨ret_bool (by rw [HE.out, Bool.eq_iff_iff]; simp <;> omega), H1.out.old⟩
      ·have HE : Hid (ok = false) := Lib.hid (by rw [HL.out, k4]; simp [hi])
       have q3 : ((e.i : Int) == 0) = false := by rw [beq_eq_false_iff_ne]; omega
       clear k4 q1 q2
       go_wp2_with fail
       go_ret
       exact ⟨ret_bool HE.out.symm, H1.out.old⟩
     ·have HE : Hid (ok = false) := Lib.hid (by rw [HL.out]; simp [k1, k2, k4])
      have q4 : ((e.k : Int) == 4) = false := by rw [beq_eq_false_iff_ne]; omega
      go_wp2_with fail
      go_ret
      exact ⟨ret_bool HE.out.symm, H1.out.old⟩
  ·have HE : Hid (ok = false) := Lib.hid (by rw [HL.out, decide_eq_false (fun h => h2 h.2)]; rfl)
   have g2 : decide ((16777217 : Int) < (e.n : Int)) = true := by simp; omega
   go_wp2_with fail
   go_ret
   exact ⟨ret_bool HE.out.symm, H1.out.old⟩
 ·have HE : Hid (ok = false) := Lib.hid (by rw [HL.out, decide_eq_false (fun h => h1 h.1)]; rfl)
  have g1 : decide ((e.n : Int) < 1) = true := by simp; omega
  go_wp2_with fail
  go_ret
  exact ⟨ret_bool HE.out.symm, H1.out.old⟩
theorem cmpN_lt (x c : Nat) : cmpN x c < 0 ↔ x < c := by unfold cmpN; repeat' split <;> omega
theorem cmpN_eq (x c : Nat) : cmpN x c = 0 ↔ x = c := by unfold cmpN; repeat' split <;> omega
theorem up_get {l : List La} (h : l.Pairwise fun a b => a.c < b.c) {i j : Nat} {x y : La} (hij : i < j) (hx : l[i]? = some x) (hy : l[j]? = some y) : x.c < y.c := by
 have h1 := (List.getElem?_eq_some_iff.1 hx)
 have h2 := (List.getElem?_eq_some_iff.1 hy)
 have := List.pairwise_iff_getElem.1 h i j h1.1 h2.1 hij
 rw [h1.2, h2.2] at this
 exact this
theorem mono_tick {l : List La} (h : l.Pairwise fun a b => a.c < b.c) (c : Nat) : Mono l fun y => cmpN y.c c := fun i j x y hij hx hy hn => by
 simp only at hn ⊢
 rw [cmpN_lt] at hn ⊢
 by_cases e : i = j
 ·subst e
  rw [hx] at hy
  cases hy
  exact hn
 ·have := up_get h (by omega) hx hy
  omega
def tkIx (l : List La) (c : Nat) : Nat := l.countP fun y => decide (y.c < c)
theorem tkIx_eq (l : List La) (c : Nat) : (l.countP fun y => decide (cmpN y.c c < 0)) = tkIx l c := by
 unfold tkIx
 congr 1
 funext y
 rw [Bool.eq_iff_iff, decide_eq_true_eq, decide_eq_true_eq, cmpN_lt]
theorem found_eq {l : List La} (h : l.Pairwise fun a b => a.c < b.c) (c : Nat) : (foundB l fun y => cmpN y.c c) = (tkOf l c).isSome := by
 rw [Bool.eq_iff_iff, tkOf_some]
 unfold foundB
 rw [tkIx_eq]
 constructor
 ·intro hf
  cases hy : l[tkIx l c]? with
  | none => rw [hy] at hf; cases hf
  | some y =>
   rw [hy] at hf
   simp only [decide_eq_true_eq, cmpN_eq] at hf
   exact ⟨y, List.mem_of_getElem? hy, hf⟩
 ·rintro ⟨t, ht, hc⟩
  obtain ⟨y, h1, h2, _⟩ := ticked_old (x := ⟨c, 0, by rw [← hc]; exact t.hc, by omega⟩) h ⟨t, ht, hc⟩ (k := tkIx l c) rfl
  rw [h1]
  simp only [decide_eq_true_eq, cmpN_eq]
  exact h2
set_option maxRecDepth 100000 in
theorem tickIndex_any {a : Option Addr} {n cap : Nat} {l : List La} {w : World} (hl : LL w a n l) (hn : n < 500000) (hs : l.Pairwise fun a b => a.c < b.c) (c : Nat) : Calls Tryz.prog 61 #[.slice a n cap, .int .u16 (c : Int)] w (FindP (tkIx l c) (tkOf l c).isSome w) := by
 have HB := Lib.hid (bsL_any (cap := cap) hl hn c (mono_tick hs c))
 rw [tkIx_eq, found_eq hs] at HB
 generalize tkIx l c = k at HB ⊢
 generalize (tkOf l c).isSome = f at HB ⊢
 clear hl hs
 go_enter Tryz.func61, Tryz.ntmps61
 go_wp2_with fail
 refine HB.out.mono ?_
 rintro e w' ⟨rfl, hg⟩
 have HG := Lib.hid hg
 clear hg
 go_wp2_with fail
 go_ret2
 exact ⟨rfl, HG.out⟩
structure TsTo (l : List La) (k : Nat) : Prop where
 le : ∀ t ∈ l.take k, t.t ≤ 1073741824
 up : (l.take k).Pairwise fun a b => a.c < b.c
theorem TsTo.all {l : List La} {n : Nat} (h : TsTo l n) (hn : l.length ≤ n) : TsR l := by
 obtain ⟨h1, h2⟩ := h
 rw [List.take_of_length_le hn] at h1 h2
 exact ⟨h1, h2⟩
theorem TsTo.next {l : List La} {k : Nat} {x : La} (h : TsTo l k) (hx : l[k]? = some x) (ht : x.t ≤ 1073741824) (hp : ∀ y, 0 < k → l[k - 1]? = some y → y.c < x.c) : TsTo l (k + 1) := by
 refine ⟨fun t ht2 => ?_, ?_⟩
 ·rw [List.take_add_one, hx] at ht2
  rcases List.mem_append.1 ht2 with h2 | h2
  ·exact h.le t h2
  ·obtain rfl : t = x := by simpa using h2
   exact ht
 ·rw [List.take_add_one, hx, List.pairwise_append]
  refine ⟨h.up, by simp, fun a ha b hb => ?_⟩
  obtain rfl : b = x := by simpa using hb
  by_cases h0 : 0 < k
  ·have hkl : k - 1 < l.length := by have := (List.getElem?_eq_some_iff.1 hx).1; omega
   have hy := List.getElem?_eq_getElem hkl
   have h1 := hp _ h0 hy
   obtain ⟨i, hi, rfl⟩ := List.getElem_of_mem ha
   simp only [List.length_take] at hi
   by_cases e : i = k - 1
   ·subst e
    simpa using h1
   ·have h2 := List.pairwise_iff_getElem.1 h.up i (k - 1) (by simp; omega) (by simp; omega) (by omega)
    simp only [List.getElem_take] at h2 ⊢
    omega
  ·have : k = 0 := by omega
   subst this
   simp at ha
structure RtS (w W : World) (x : La) (b o : Nat) (y : La) : Prop where
 el : Blk W w.heap.size 96 x.arr
 pr : W.cell? ⟨b, o, none⟩ = some (.int .u16 (y.c : Int))
def RtR (w : World) (l : List La) (n : Nat) (v : Value) (W : World) : Prop := ∃ k : Nat, v = .int .i64 (k : Int) ∧ k ≤ n ∧ Hid (TsTo l k) ∧ Hid (Below w.heap.size w W)
set_option maxRecDepth 100000 in
set_option maxHeartbeats 4000000 in
theorem rightTicks_any {a : Option Addr} {n cap : Nat} {l : List La} {w : World} (hl : LL w a n l) (hn : n < 500000) : Calls Tryz.prog 51 #[.slice a n cap] w (SaysIff (TsR l) w) := by
 have HL := Lib.hid hl
 have HLEN := Lib.hid hl.len'
 obtain ⟨zo, ho⟩ : ∃ z, La.zero = z := ⟨_, rfl⟩
 have HZO := Lib.hid ho
 clear hl ho
 go_enter Tryz.func51, Tryz.ntmps51
 go_wp2_with fail
 go_loopw [7] (RtR w l n) (fun v _ => n - (numI v).toNat)
 case atStart => exact ⟨0, rfl, Nat.zero_le _, Lib.hid ⟨by simp, by simp⟩, Lib.hid (Below.refl _ _)⟩
 case round =>
  obtain ⟨k, rfl, hk, HT, HB⟩ := hrel
  by_cases hlt : k < n
  ·obtain ⟨b, off, x, rfl, hx, hr⟩ := LL.at (HL.out.below HB.out) hlt
   have HX := Lib.hid hx
   have HR := Lib.hid hr
   clear hx hr
   go_wp2_with (first | (refine wpList_run rfl (exec_idx96 (i := k) rfl rfl rfl rfl hlt) ?_) | (refine wpList_run rfl (exec_ld96 (p := x) rfl rfl HR.out) ?_) | (refine wpList_run rfl (exec_alloc96z HZO.out rfl) ?_) | (refine wpList_stop96 rfl ?_))
   refine ⟨?_⟩
   refine wpList_void rfl rfl (exec_store96 (p := zo) (u := x) rfl rfl rfl (Blk.new wr 96 zo.arr)) ?_
   have H1 := Lib.hid (bo_laid wr 96 zo.arr x.arr)
   generalize (wr.alloc (.cells zo.arr 96)).setRow wr.heap.size x.arr = w1 at H1
   have HB1 : Hid (Below w.heap.size w w1) := Lib.hid (HB.out.trans (H1.out.old.mono HB.out.size))
   by_cases ht : x.t ≤ 1073741824
   ·have hq : decide ((1073741824 : Int) < (x.t : Int)) = false := by simp; omega
    by_cases h0 : 0 < k
    ·have hk0 : decide ((0 : Int) < (k : Int)) = true := by simp; omega
     obtain ⟨b2, off2, y, e2, hy, hr2⟩ := LL.at (HL.out.below HB1.out) (i := k - 1) (by omega)
     simp only [Option.some.injEq, Addr.mk.injEq, and_true] at e2
     obtain ⟨rfl, rfl⟩ := e2
     have HY := Lib.hid hy
     have HS : Hid (RtS wr w1 x b (off + (k - 1) * 2) y) := Lib.hid ⟨H1.out.one, by have := hr2 0 (.int .u16 (y.c : Int)) rfl; rwa [Nat.add_zero] at this⟩
     clear hy hr2
     by_cases hc2 : y.c < x.c
     ·have hc : decide ((x.c : Int) ≤ (y.c : Int)) = false := by simp; omega
      go_wp2_with fail
      refine wp_region_held_drew (S := fun w' => RtS wr w' x b (off + (k - 1) * 2) y) (by kernel_rfl) ⟨HS.out.el, HS.out.pr⟩ (fun hS => ?_)
      refine held_tk 0 12 (.pointer (some ⟨wr.heap.size, 1, none⟩)) rfl rfl (by kernel_rfl) (fun _ _ _ h => h) (fun _ _ => (by kernel_rfl)) hS ?_
      simp only [Act.put, ap1, ap2, ap3]
      refine held_tk 1 13 (.int .u32 (x.t : Int)) rfl rfl (by kernel_rfl) (fun _ _ _ h => h) (fun _ h => exec_cell rfl rfl (load_cell (by kernel_rfl) (lat1 h.el))) hS ?_
      simp only [Act.put, ap1, ap2, ap3]
      refine held_tk 2 14 (.bool false) rfl rfl (by kernel_rfl) (fun _ _ _ h => h) (fun _ _ => exec_gtrI rfl rfl rfl hq) hS ?_
      simp only [Act.put, ap1, ap2, ap3]
      refine held_tk 3 15 (.bool false) rfl rfl (by kernel_rfl) (fun _ _ _ h => h) (fun _ _ => rfl) hS ?_
      simp only [Act.put, ap1, ap2, ap3]
      refine held_tk 4 16 (.int .i64 (k : Int)) rfl rfl (by kernel_rfl) (fun _ _ _ h => h) (fun _ _ => rfl) hS ?_
      simp only [Act.put, ap1, ap2, ap3]
      refine held_tk 5 17 (.bool true) rfl rfl (by kernel_rfl) (fun _ _ _ h => h) (fun _ _ => exec_gtrI rfl rfl rfl hk0) hS ?_
      simp only [Act.put, ap1, ap2, ap3]
      refine held_tk 6 18 (.bool true) rfl rfl (by kernel_rfl) (fun _ _ _ h => h) (fun _ _ => rfl) hS ?_
      simp only [Act.put, ap1, ap2, ap3]
      refine held_tk 7 19 (.slice (some ⟨b, off, none⟩) n cap) rfl rfl (by kernel_rfl) (fun _ _ _ h => h) (fun _ _ => rfl) hS ?_
      simp only [Act.put, ap1, ap2, ap3]
      refine held_tk 8 20 (.int .i64 (k : Int)) rfl rfl (by kernel_rfl) (fun _ _ _ h => h) (fun _ _ => rfl) hS ?_
      simp only [Act.put, ap1, ap2, ap3]
      refine held_tk 9 21 (.int .i64 ((k : Int) - 1)) rfl rfl (by kernel_rfl) (fun _ _ _ h => h) (fun _ _ => exec_subN rfl rfl rfl rfl (by omega) (by omega)) hS ?_
      simp only [Act.put, ap1, ap2, ap3]
      refine held_tk 10 22 (.pointer (some ⟨b, off + (k - 1) * 2, none⟩)) rfl rfl (by kernel_rfl) (fun _ _ _ h => h) (fun _ _ => exec_idx96 (i := k - 1) rfl rfl rfl (by omega) (by omega)) hS ?_
      simp only [Act.put, ap1, ap2, ap3]
      refine held_tk 11 23 (.pointer (some ⟨b, off + (k - 1) * 2, none⟩)) rfl rfl (by kernel_rfl) (fun _ _ _ h => h) (fun _ _ => (by kernel_rfl)) hS ?_
      simp only [Act.put, ap1, ap2, ap3]
      refine held_tk 12 24 (.int .u16 (y.c : Int)) rfl rfl (by kernel_rfl) (fun _ _ _ h => h) (fun _ h => exec_cell rfl rfl (load_cell (by kernel_rfl) h.pr)) hS ?_
      simp only [Act.put, ap1, ap2, ap3]
      refine held_tk 13 25 (.pointer (some ⟨wr.heap.size, 0, none⟩)) rfl rfl (by kernel_rfl) (fun _ _ _ h => h) (fun _ _ => (by kernel_rfl)) hS ?_
      simp only [Act.put, ap1, ap2, ap3]
      refine held_tk 14 26 (.int .u16 (x.c : Int)) rfl rfl (by kernel_rfl) (fun _ _ _ h => h) (fun _ h => exec_cell rfl rfl (load_cell (by kernel_rfl) (lat0 h.el))) hS ?_
      simp only [Act.put, ap1, ap2, ap3]
      refine held_tk 15 27 (.bool false) rfl rfl (by kernel_rfl) (fun _ _ _ h => h) (fun _ _ => exec_geqI rfl rfl rfl hc) hS ?_
      simp only [Act.put, ap1, ap2, ap3]
      refine held_tk 16 28 (.bool false) rfl rfl (by kernel_rfl) (fun _ _ _ h => h) (fun _ _ => rfl) hS ?_
      simp only [Act.put, ap1, ap2, ap3]
      refine held_tk 17 29 (.bool false) rfl rfl (by kernel_rfl) (fun _ _ _ h => h) (fun _ _ => rfl) hS ?_
      simp only [Act.put, ap1, ap2, ap3]
      refine wpAnyH_done (by kernel_rfl) ?_ _
      have HN : Hid (TsTo l (k + 1)) := Lib.hid (HT.out.next HX.out ht (fun z _ hz => by rw [HY.out] at hz; cases hz; exact hc2))
      clear hS
      go_wp2_with fail
      go_roundw
      case rel => exact ⟨k + 1, by go_num, hlt, HN, Lib.hid HB1.out.drew⟩
      case measure => simp [numI]; omega
     ·have hc : decide ((x.c : Int) ≤ (y.c : Int)) = true := by simp; omega
      have HN : Hid (¬ TsR l) := Lib.hid (fun h => hc2 (up_get h.up (by omega) HY.out HX.out))
      go_wp2_with fail
      refine wp_region_held_drew (S := fun w' => RtS wr w' x b (off + (k - 1) * 2) y) (by kernel_rfl) ⟨HS.out.el, HS.out.pr⟩ (fun hS => ?_)
      refine held_tk 0 12 (.pointer (some ⟨wr.heap.size, 1, none⟩)) rfl rfl (by kernel_rfl) (fun _ _ _ h => h) (fun _ _ => (by kernel_rfl)) hS ?_
      simp only [Act.put, ap1, ap2, ap3]
      refine held_tk 1 13 (.int .u32 (x.t : Int)) rfl rfl (by kernel_rfl) (fun _ _ _ h => h) (fun _ h => exec_cell rfl rfl (load_cell (by kernel_rfl) (lat1 h.el))) hS ?_
      simp only [Act.put, ap1, ap2, ap3]
      refine held_tk 2 14 (.bool false) rfl rfl (by kernel_rfl) (fun _ _ _ h => h) (fun _ _ => exec_gtrI rfl rfl rfl hq) hS ?_
      simp only [Act.put, ap1, ap2, ap3]
      refine held_tk 3 15 (.bool false) rfl rfl (by kernel_rfl) (fun _ _ _ h => h) (fun _ _ => rfl) hS ?_
      simp only [Act.put, ap1, ap2, ap3]
      refine held_tk 4 16 (.int .i64 (k : Int)) rfl rfl (by kernel_rfl) (fun _ _ _ h => h) (fun _ _ => rfl) hS ?_
      simp only [Act.put, ap1, ap2, ap3]
      refine held_tk 5 17 (.bool true) rfl rfl (by kernel_rfl) (fun _ _ _ h => h) (fun _ _ => exec_gtrI rfl rfl rfl hk0) hS ?_
      simp only [Act.put, ap1, ap2, ap3]
      refine held_tk 6 18 (.bool true) rfl rfl (by kernel_rfl) (fun _ _ _ h => h) (fun _ _ => rfl) hS ?_
      simp only [Act.put, ap1, ap2, ap3]
      refine held_tk 7 19 (.slice (some ⟨b, off, none⟩) n cap) rfl rfl (by kernel_rfl) (fun _ _ _ h => h) (fun _ _ => rfl) hS ?_
      simp only [Act.put, ap1, ap2, ap3]
      refine held_tk 8 20 (.int .i64 (k : Int)) rfl rfl (by kernel_rfl) (fun _ _ _ h => h) (fun _ _ => rfl) hS ?_
      simp only [Act.put, ap1, ap2, ap3]
      refine held_tk 9 21 (.int .i64 ((k : Int) - 1)) rfl rfl (by kernel_rfl) (fun _ _ _ h => h) (fun _ _ => exec_subN rfl rfl rfl rfl (by omega) (by omega)) hS ?_
      simp only [Act.put, ap1, ap2, ap3]
      refine held_tk 10 22 (.pointer (some ⟨b, off + (k - 1) * 2, none⟩)) rfl rfl (by kernel_rfl) (fun _ _ _ h => h) (fun _ _ => exec_idx96 (i := k - 1) rfl rfl rfl (by omega) (by omega)) hS ?_
      simp only [Act.put, ap1, ap2, ap3]
      refine held_tk 11 23 (.pointer (some ⟨b, off + (k - 1) * 2, none⟩)) rfl rfl (by kernel_rfl) (fun _ _ _ h => h) (fun _ _ => (by kernel_rfl)) hS ?_
      simp only [Act.put, ap1, ap2, ap3]
      refine held_tk 12 24 (.int .u16 (y.c : Int)) rfl rfl (by kernel_rfl) (fun _ _ _ h => h) (fun _ h => exec_cell rfl rfl (load_cell (by kernel_rfl) h.pr)) hS ?_
      simp only [Act.put, ap1, ap2, ap3]
      refine held_tk 13 25 (.pointer (some ⟨wr.heap.size, 0, none⟩)) rfl rfl (by kernel_rfl) (fun _ _ _ h => h) (fun _ _ => (by kernel_rfl)) hS ?_
      simp only [Act.put, ap1, ap2, ap3]
      refine held_tk 14 26 (.int .u16 (x.c : Int)) rfl rfl (by kernel_rfl) (fun _ _ _ h => h) (fun _ h => exec_cell rfl rfl (load_cell (by kernel_rfl) (lat0 h.el))) hS ?_
      simp only [Act.put, ap1, ap2, ap3]
      refine held_tk 15 27 (.bool true) rfl rfl (by kernel_rfl) (fun _ _ _ h => h) (fun _ _ => exec_geqI rfl rfl rfl hc) hS ?_
      simp only [Act.put, ap1, ap2, ap3]
      refine held_tk 16 28 (.bool true) rfl rfl (by kernel_rfl) (fun _ _ _ h => h) (fun _ _ => rfl) hS ?_
      simp only [Act.put, ap1, ap2, ap3]
      refine held_tk 17 29 (.bool true) rfl rfl (by kernel_rfl) (fun _ _ _ h => h) (fun _ _ => rfl) hS ?_
      simp only [Act.put, ap1, ap2, ap3]
      refine wpAnyH_done (by kernel_rfl) ?_ _
      clear hS
      go_wp2_with fail
      go_ret
      exact ⟨false, rfl, by simp [HN.out], HB1.out.drew⟩
    ·have hk0 : decide ((0 : Int) < (k : Int)) = false := by simp; omega
     have HS : Hid (RtS wr w1 x wr.heap.size 0 x) := Lib.hid ⟨H1.out.one, lat0 H1.out.one⟩
     go_wp2_with fail
     refine wp_region_held_drew (S := fun w' => RtS wr w' x wr.heap.size 0 x) (by kernel_rfl) ⟨HS.out.el, HS.out.pr⟩ (fun hS => ?_)
     refine held_tk 0 12 (.pointer (some ⟨wr.heap.size, 1, none⟩)) rfl rfl (by kernel_rfl) (fun _ _ _ h => h) (fun _ _ => (by kernel_rfl)) hS ?_
     simp only [Act.put, ap1, ap2, ap3]
     refine held_tk 1 13 (.int .u32 (x.t : Int)) rfl rfl (by kernel_rfl) (fun _ _ _ h => h) (fun _ h => exec_cell rfl rfl (load_cell (by kernel_rfl) (lat1 h.el))) hS ?_
     simp only [Act.put, ap1, ap2, ap3]
     refine held_tk 2 14 (.bool false) rfl rfl (by kernel_rfl) (fun _ _ _ h => h) (fun _ _ => exec_gtrI rfl rfl rfl hq) hS ?_
     simp only [Act.put, ap1, ap2, ap3]
     refine held_tk 3 15 (.bool false) rfl rfl (by kernel_rfl) (fun _ _ _ h => h) (fun _ _ => rfl) hS ?_
     simp only [Act.put, ap1, ap2, ap3]
     refine held_tk 4 16 (.int .i64 (k : Int)) rfl rfl (by kernel_rfl) (fun _ _ _ h => h) (fun _ _ => rfl) hS ?_
     simp only [Act.put, ap1, ap2, ap3]
     refine held_tk 5 17 (.bool false) rfl rfl (by kernel_rfl) (fun _ _ _ h => h) (fun _ _ => exec_gtrI rfl rfl rfl hk0) hS ?_
     simp only [Act.put, ap1, ap2, ap3]
     refine held_tk 6 18 (.bool false) rfl rfl (by kernel_rfl) (fun _ _ _ h => h) (fun _ _ => rfl) hS ?_
     simp only [Act.put, ap1, ap2, ap3]
     refine held_sk 7 19 rfl rfl (by kernel_rfl) (fun _ _ _ h => h) hS ?_
     simp only [Act.put, ap1, ap2, ap3]
     refine held_sk 8 20 rfl rfl (by kernel_rfl) (fun _ _ _ h => h) hS ?_
     simp only [Act.put, ap1, ap2, ap3]
     refine held_sk 9 21 rfl rfl (by kernel_rfl) (fun _ _ _ h => h) hS ?_
     simp only [Act.put, ap1, ap2, ap3]
     refine held_sk 10 22 rfl rfl (by kernel_rfl) (fun _ _ _ h => h) hS ?_
     simp only [Act.put, ap1, ap2, ap3]
     refine held_sk 11 23 rfl rfl (by kernel_rfl) (fun _ _ _ h => h) hS ?_
     simp only [Act.put, ap1, ap2, ap3]
     refine held_sk 12 24 rfl rfl (by kernel_rfl) (fun _ _ _ h => h) hS ?_
     simp only [Act.put, ap1, ap2, ap3]
     refine held_sk 13 25 rfl rfl (by kernel_rfl) (fun _ _ _ h => h) hS ?_
     simp only [Act.put, ap1, ap2, ap3]
     refine held_sk 14 26 rfl rfl (by kernel_rfl) (fun _ _ _ h => h) hS ?_
     simp only [Act.put, ap1, ap2, ap3]
     refine held_sk 15 27 rfl rfl (by kernel_rfl) (fun _ _ _ h => h) hS ?_
     simp only [Act.put, ap1, ap2, ap3]
     refine held_tk 16 28 (.bool false) rfl rfl (by kernel_rfl) (fun _ _ _ h => h) (fun _ _ => rfl) hS ?_
     simp only [Act.put, ap1, ap2, ap3]
     refine held_tk 17 29 (.bool false) rfl rfl (by kernel_rfl) (fun _ _ _ h => h) (fun _ _ => rfl) hS ?_
     simp only [Act.put, ap1, ap2, ap3]
     refine wpAnyH_done (by kernel_rfl) ?_ _
     have HN : Hid (TsTo l (k + 1)) := Lib.hid (HT.out.next HX.out ht (fun z h _ => absurd h h0))
     clear hS
     go_wp2_with fail
     go_roundw
     case rel => exact ⟨k + 1, by go_num, hlt, HN, Lib.hid HB1.out.drew⟩
     case measure => simp [numI]; omega
   ·have hq : decide ((1073741824 : Int) < (x.t : Int)) = true := by simp; omega
    have HS : Hid (RtS wr w1 x wr.heap.size 0 x) := Lib.hid ⟨H1.out.one, lat0 H1.out.one⟩
    have HN : Hid (¬ TsR l) := Lib.hid (fun h => ht (h.le x (List.mem_of_getElem? HX.out)))
    go_wp2_with fail
    refine wp_region_held_drew (S := fun w' => RtS wr w' x wr.heap.size 0 x) (by kernel_rfl) ⟨HS.out.el, HS.out.pr⟩ (fun hS => ?_)
    refine held_tk 0 12 (.pointer (some ⟨wr.heap.size, 1, none⟩)) rfl rfl (by kernel_rfl) (fun _ _ _ h => h) (fun _ _ => (by kernel_rfl)) hS ?_
    simp only [Act.put, ap1, ap2, ap3]
    refine held_tk 1 13 (.int .u32 (x.t : Int)) rfl rfl (by kernel_rfl) (fun _ _ _ h => h) (fun _ h => exec_cell rfl rfl (load_cell (by kernel_rfl) (lat1 h.el))) hS ?_
    simp only [Act.put, ap1, ap2, ap3]
    refine held_tk 2 14 (.bool true) rfl rfl (by kernel_rfl) (fun _ _ _ h => h) (fun _ _ => exec_gtrI rfl rfl rfl hq) hS ?_
    simp only [Act.put, ap1, ap2, ap3]
    refine held_tk 3 15 (.bool true) rfl rfl (by kernel_rfl) (fun _ _ _ h => h) (fun _ _ => rfl) hS ?_
    simp only [Act.put, ap1, ap2, ap3]
    refine held_sk 4 16 rfl rfl (by kernel_rfl) (fun _ _ _ h => h) hS ?_
    simp only [Act.put, ap1, ap2, ap3]
    refine held_sk 5 17 rfl rfl (by kernel_rfl) (fun _ _ _ h => h) hS ?_
    simp only [Act.put, ap1, ap2, ap3]
    refine held_sk 6 18 rfl rfl (by kernel_rfl) (fun _ _ _ h => h) hS ?_
    simp only [Act.put, ap1, ap2, ap3]
    refine held_sk 7 19 rfl rfl (by kernel_rfl) (fun _ _ _ h => h) hS ?_
    simp only [Act.put, ap1, ap2, ap3]
    refine held_sk 8 20 rfl rfl (by kernel_rfl) (fun _ _ _ h => h) hS ?_
    simp only [Act.put, ap1, ap2, ap3]
    refine held_sk 9 21 rfl rfl (by kernel_rfl) (fun _ _ _ h => h) hS ?_
    simp only [Act.put, ap1, ap2, ap3]
    refine held_sk 10 22 rfl rfl (by kernel_rfl) (fun _ _ _ h => h) hS ?_
    simp only [Act.put, ap1, ap2, ap3]
    refine held_sk 11 23 rfl rfl (by kernel_rfl) (fun _ _ _ h => h) hS ?_
    simp only [Act.put, ap1, ap2, ap3]
    refine held_sk 12 24 rfl rfl (by kernel_rfl) (fun _ _ _ h => h) hS ?_
    simp only [Act.put, ap1, ap2, ap3]
    refine held_sk 13 25 rfl rfl (by kernel_rfl) (fun _ _ _ h => h) hS ?_
    simp only [Act.put, ap1, ap2, ap3]
    refine held_sk 14 26 rfl rfl (by kernel_rfl) (fun _ _ _ h => h) hS ?_
    simp only [Act.put, ap1, ap2, ap3]
    refine held_sk 15 27 rfl rfl (by kernel_rfl) (fun _ _ _ h => h) hS ?_
    simp only [Act.put, ap1, ap2, ap3]
    refine held_sk 16 28 rfl rfl (by kernel_rfl) (fun _ _ _ h => h) hS ?_
    simp only [Act.put, ap1, ap2, ap3]
    refine held_tk 17 29 (.bool true) rfl rfl (by kernel_rfl) (fun _ _ _ h => h) (fun _ _ => rfl) hS ?_
    simp only [Act.put, ap1, ap2, ap3]
    refine wpAnyH_done (by kernel_rfl) ?_ _
    clear hS
    go_wp2_with fail
    go_ret
    exact ⟨false, rfl, by simp [HN.out], HB1.out.drew⟩
  ·obtain rfl : k = n := by omega
   have HN : Hid (TsR l) := Lib.hid (HT.out.all (by rw [HLEN.out]; exact Nat.le_refl _))
   go_wp2_with fail
   go_ret
   exact ⟨true, rfl, by simp [HN.out], HB.out⟩
end Go.Proofs.YtnekpgmgnepdoaaGreat
end
section
namespace Go.Proofs.YtnekpgmgnepdoaaGreat
open Go.RowKit
theorem below_any (a b : V) (w : World) : Calls Tryz.prog 82 #[.agg a.arr, .agg b.arr] w (Says (.bool (V.belowB a b)) w) := by
 have hb1 := fun (v : V) (w : World) => box24 v w
 go_enter Tryz.func82, Tryz.ntmps82
 go_wp2_with fail
 clear hb1
 have HT := Lib.hid (two_new w a b)
 generalize (w.alloc (.cells a.arr 24)).alloc (.cells b.arr 24) = W at HT
 refine wp_region_held_drew (S := fun w' => Two w w' a b) (by kernel_rfl) HT.out.drew (fun hS => ?_)
 refine held_tk 0 5 (.agg a.arr) rfl rfl (by kernel_rfl) (fun _ _ _ h => h) (fun _ h => exec_load24 rfl rfl h.one) hS ?_
 simp only [Act.put, ap1, ap2, ap3]
 refine held_tk 1 6 (.agg b.arr) rfl rfl (by kernel_rfl) (fun _ _ _ h => h) (fun _ h => exec_load24 rfl rfl h.two) hS ?_
 simp only [Act.put, ap1, ap2, ap3]
 refine held_tk 3 8 (.agg b.arr) rfl rfl (by kernel_rfl) (fun _ _ _ h => h) (fun _ h => exec_load24 rfl rfl h.two) hS ?_
 simp only [Act.put, ap1, ap2, ap3]
 refine held_call 2 7 57 #[.agg a.arr, .agg b.arr] (.agg (V.join a b).arr) rfl (by kernel_rfl) rfl (by kernel_rfl) (by kernel_rfl) (join_any a b _) (fun _ h hb => h.below hb) hS (fun w2 hS => ?_)
 simp only [Act.put, ap1, ap2, ap3]
 refine held_tk 4 9 (.bool (V.belowB a b)) rfl rfl (by kernel_rfl) (fun _ _ _ h => h) (fun _ h => exec_eql24 rfl rfl rfl (V.below_join a b)) hS ?_
 simp only [Act.put, ap1, ap2, ap3]
 refine held_tk 5 4 (.bool (V.belowB a b)) rfl rfl (by kernel_rfl) (fun _ _ _ h => h) (fun _ h => rfl) hS ?_
 simp only [Act.put, ap1, ap2, ap3]
 refine wpAnyH_done (by kernel_rfl) ?_ _
 go_wp2_with fail
 go_ret
 exact ⟨rfl, hS.old⟩
theorem right_any (v : V) (n : Int) (w : World) (h0 : -9223372036854775808 ≤ n) (h1 : n ≤ 9223372036854775807) : Calls Tryz.prog 50 #[.agg v.arr, .int .i64 n] w (Says (.bool (V.rightB v n)) w) := by
 have hb1 := fun (v : V) (w : World) => box24 v w
 have hix := fun (i : Nat) (w : World) (h : i < 16) => index24 v .i64 i w h
 by_cases hn : 1 ≤ n ∧ n ≤ 16
 ·have HE : Hid (V.rightB v n = V.rightTo v n 16) := Lib.hid (by simp [V.rightB, hn])
  obtain ⟨n1, n2⟩ := hn
  go_enter Tryz.func50, Tryz.ntmps50
  go_wp2_with ((refine wpList_load24 rfl rfl rfl (Blk.new w 24 v.arr) ?_))
  clear hb1
  have HO := Lib.hid (below_one w (.cells v.arr 24))
  generalize w.alloc (.cells v.arr 24) = W at HO
  go_loop [14] (fun i => ∃ k : Nat, k ≤ 16 ∧ i = .int .i64 (k : Int) ∧ Hid (V.rightTo v n k = true)) (fun i => 16 - (intOf i).toNat)
  case atStart => exact ⟨0, by omega, rfl, Lib.hid (V.rightTo_zero v n)⟩
  case round =>
   obtain ⟨k, hk, rfl, HR⟩ := hrel
   by_cases hlt : k < 16
   ·have hix' := fun w => hix k w hlt
    have l1 := v.lt k
    clear hix
    by_cases g1 : v.at_ k ≤ 1048576
    ·by_cases g2 : n ≤ (k : Int)
     ·by_cases g3 : v.at_ k = 0
      ·have HR2 := Lib.hid (V.rightTo_succ v n k HR.out g1 (fun _ => g3))
       rw [g3] at hix'
       clear g3 g1 l1
       go_wp2_with fail
       go_round
       case rel => exact ⟨k + 1, by omega, by go_num, HR2⟩
       case measure => simp [intOf]; omega
      ·have HN := Lib.hid (V.rightTo_not v n hlt (.inr ⟨g2, g3⟩))
       generalize v.at_ k = x at hix' l1 g1 g3
       have g4 : ((x : Int) != 0) = true := by simp; omega
       go_wp2_with fail
       go_ret
       exact ⟨ret_bool (HE.out.trans HN.out).symm, HO.out⟩
     ·have HR2 := Lib.hid (V.rightTo_succ v n k HR.out g1 (fun h => absurd h g2))
      generalize v.at_ k = x at hix' l1 g1
      go_wp2_with fail
      go_round
      case rel => exact ⟨k + 1, by omega, by go_num, HR2⟩
      case measure => simp [intOf]; omega
    ·have HN := Lib.hid (V.rightTo_not v n hlt (.inl (by omega)))
     generalize v.at_ k = x at hix' l1 g1
     go_wp2_with fail
     go_ret
     exact ⟨ret_bool (HE.out.trans HN.out).symm, HO.out⟩
   ·obtain rfl : k = 16 := by omega
    clear hix
    go_wp2_with fail
    go_ret
    exact ⟨ret_bool (HE.out.trans HR.out).symm, HO.out⟩
 ·have HE : Hid (V.rightB v n = false) := Lib.hid (by simp [V.rightB]; intro h h2; exact absurd ⟨h, h2⟩ hn)
  have hn' : n < 1 ∨ 16 < n := by omega
  clear hix hn
  rcases hn' with hn' | hn'
  all_goals
   go_enter Tryz.func50, Tryz.ntmps50
   go_wp2_with fail
   go_ret
   exact ⟨ret_bool HE.out.symm, below_one _ _⟩
theorem rright_any (v : V) (n : Int) (w : World) (h0 : -9223372036854775808 ≤ n) (h1 : n ≤ 9223372036854775807) : Calls Tryz.prog 55 #[.agg v.arr, .int .i64 n] w (Says (.bool (V.rightB v n)) w) := by
 have hb1 := fun (v : V) (w : World) => box24 v w
 go_enter Tryz.func55, Tryz.ntmps55
 go_wp2_with fail
 clear hb1
 have HO := Lib.hid (below_one w (.cells v.arr 24))
 have HV := Lib.hid (Blk.new w 24 v.arr)
 generalize w.alloc (.cells v.arr 24) = W at HO HV
 go_loop [5] (fun i => ∃ k : Nat, k ≤ 16 ∧ i = .int .i64 (k : Int) ∧ Hid (V.rightTo v n k = true)) (fun i => 16 - (intOf i).toNat)
 case atStart => exact ⟨0, by omega, rfl, Lib.hid (V.rightTo_zero v n)⟩
 case round =>
  obtain ⟨k, hk, rfl, HR⟩ := hrel
  by_cases hlt : k < 16
  ·have c1 : W.cell? ⟨w.heap.size, k, none⟩ = some (.int .u32 (v.at_ k : Int)) := by rw [HV.out.cell, V.arr_at _ hlt]
   have l1 := v.lt k
   by_cases g1 : v.at_ k ≤ 1048576
   ·by_cases g2 : n ≤ (k : Int)
    ·by_cases g3 : v.at_ k = 0
     ·have HR2 := Lib.hid (V.rightTo_succ v n k HR.out g1 (fun _ => g3))
      rw [g3] at c1
      clear g3 g1 l1
      go_wp2_with fail
      go_round
      case rel => exact ⟨k + 1, by omega, by go_num, HR2⟩
      case measure => simp [intOf]; omega
     ·have HN := Lib.hid (V.rightTo_not v n hlt (.inr ⟨g2, g3⟩))
      generalize v.at_ k = x at c1 l1 g1 g3
      have g4 : ((x : Int) != 0) = true := by simp; omega
      go_wp2_with fail
      go_ret
      exact ⟨ret_bool (by rw [V.rightB, HN.out]; simp), HO.out⟩
    ·have HR2 := Lib.hid (V.rightTo_succ v n k HR.out g1 (fun h => absurd h g2))
     generalize v.at_ k = x at c1 l1 g1
     go_wp2_with fail
     go_round
     case rel => exact ⟨k + 1, by omega, by go_num, HR2⟩
     case measure => simp [intOf]; omega
   ·have HN := Lib.hid (V.rightTo_not v n hlt (.inl (by omega)))
    generalize v.at_ k = x at c1 l1 g1
    go_wp2_with fail
    go_ret
    exact ⟨ret_bool (by rw [V.rightB, HN.out]; simp), HO.out⟩
  ·obtain rfl : k = 16 := by omega
   by_cases n1 : 1 ≤ n
   ·by_cases n2 : n ≤ 16
    ·go_wp2_with fail
     go_ret
     exact ⟨ret_bool (by rw [V.rightB, HR.out]; simp [n1, n2]), HO.out⟩
    ·go_wp2_with fail
     go_ret
     exact ⟨ret_bool (by rw [V.rightB, HR.out]; simp; omega), HO.out⟩
   ·go_wp2_with fail
    go_ret
    exact ⟨ret_bool (by rw [V.rightB, HR.out]; simp; omega), HO.out⟩
theorem kind_any (o : O) (w : World) : Calls Tryz.prog 122 #[.agg o.arr] w (Says (.bool o.kindB) w) := by
 have hb1 := fun w => box33 o w
 have HT := Lib.hid (ow_new w o)
 have c2 := oc2 (ow_new w o).one
 have c4 := oc4 (ow_new w o).one
 have c5 := oc5 (ow_new w o).one
 have hk := o.hk
 have hi := o.hi
 have hq := o.hq
 by_cases h1 : o.k = 1
 ·have HE : Hid (o.kindB = decide (1 ≤ o.q)) := Lib.hid (by unfold O.kindB; rw [Bool.eq_iff_iff]; simp <;> omega)
  rw [h1] at c2
  go_enter Tryz.func122, Tryz.ntmps122
  go_wp2_with fail
  go_ret
  exact ⟨ret_bool (by rw [HE.out]; first | rfl | (rw [Bool.eq_iff_iff]; simp <;> omega)), HT.out.old⟩
 by_cases h2 : o.k = 2
 ·have HE : Hid (o.kindB = true) := Lib.hid (by unfold O.kindB; simp <;> omega)
  rw [h2] at c2
  go_enter Tryz.func122, Tryz.ntmps122
  go_wp2_with fail
  go_ret
  exact ⟨ret_bool HE.out.symm, HT.out.old⟩
 by_cases h3 : o.k = 3
 ·have HE : Hid (o.kindB = decide (o.q = 0)) := Lib.hid (by unfold O.kindB; rw [Bool.eq_iff_iff]; simp <;> omega)
  rw [h3] at c2
  go_enter Tryz.func122, Tryz.ntmps122
  go_wp2_with fail
  go_ret
  exact ⟨ret_bool (by rw [HE.out]; first | rfl | (rw [Bool.eq_iff_iff]; simp <;> omega)), HT.out.old⟩
 by_cases h4 : o.k = 4
 ·by_cases hi0 : o.i = 0
  ·have HE : Hid (o.kindB = decide (o.q = 0)) := Lib.hid (by unfold O.kindB; rw [Bool.eq_iff_iff]; simp <;> omega)
   rw [h4] at c2
   rw [hi0] at c4
   go_enter Tryz.func122, Tryz.ntmps122
   go_wp2_with fail
   go_ret
   exact ⟨ret_bool (by rw [HE.out]; first | rfl | (rw [Bool.eq_iff_iff]; simp <;> omega)), HT.out.old⟩
  ·have HE : Hid (o.kindB = false) := Lib.hid (by unfold O.kindB; simp <;> omega)
   have gi : ((o.i : Int) == 0) = false := by simp <;> omega
   rw [h4] at c2
   go_enter Tryz.func122, Tryz.ntmps122
   go_wp2_with fail
   go_ret
   exact ⟨ret_bool HE.out.symm, HT.out.old⟩
 by_cases h5 : o.k = 5
 ·by_cases hi0 : o.i = 0
  ·have HE : Hid (o.kindB = decide (o.q = 0)) := Lib.hid (by unfold O.kindB; rw [Bool.eq_iff_iff]; simp <;> omega)
   rw [h5] at c2
   rw [hi0] at c4
   go_enter Tryz.func122, Tryz.ntmps122
   go_wp2_with fail
   go_ret
   exact ⟨ret_bool (by rw [HE.out]; first | rfl | (rw [Bool.eq_iff_iff]; simp <;> omega)), HT.out.old⟩
  ·have HE : Hid (o.kindB = false) := Lib.hid (by unfold O.kindB; simp <;> omega)
   have gi : ((o.i : Int) == 0) = false := by simp <;> omega
   rw [h5] at c2
   go_enter Tryz.func122, Tryz.ntmps122
   go_wp2_with fail
   go_ret
   exact ⟨ret_bool HE.out.symm, HT.out.old⟩
 have HE : Hid (o.kindB = false) := Lib.hid (by unfold O.kindB; simp <;> omega)
 have gk1 : ((o.k : Int) == 1) = false := by simp <;> omega
 have gk2 : ((o.k : Int) == 2) = false := by simp <;> omega
 have gk3 : ((o.k : Int) == 3) = false := by simp <;> omega
 have gk4 : ((o.k : Int) == 4) = false := by simp <;> omega
 have gk5 : ((o.k : Int) == 5) = false := by simp <;> omega
 go_enter Tryz.func122, Tryz.ntmps122
 go_wp2_with fail
 go_ret
 exact ⟨ret_bool HE.out.symm, HT.out.old⟩
theorem right_op (o : O) (n : Int) (w : World) (h0 : -9223372036854775808 ≤ n) (h1 : n ≤ 9223372036854775807) : Calls Tryz.prog 80 #[.agg o.arr, .int .i64 n] w (Says (.bool (o.rightB n)) w) := by
 obtain ⟨z, hz⟩ : ∃ z, V.zero = z := ⟨_, rfl⟩
 have HZ := Lib.hid hz
 clear hz
 have hb1 := fun w => box33 o w
 have HT := Lib.hid (ow_new w o)
 have HN := Lib.hid (fun w => next_any o.v o.r o.s w o.hr o.hs)
 have HR := Lib.hid (fun w => right_any o.v n w h0 h1)
 have HK := Lib.hid (fun w => kind_any o w)
 have HX := Lib.hid (O.next_zero o.v o.r o.s)
 have hr := o.hr
 have ht := o.ht
 generalize V.nextE o.v o.r o.s = E at HN HX
 generalize V.nextV o.v o.r o.s = u at HN
 go_enter Tryz.func80, Tryz.ntmps80
 go_wp2_with (first | (refine wpList_run rfl (exec_ctx (p := o) rfl rfl HT.out.one) ?_) | (refine wpList_run rfl (exec_dot (p := o) rfl rfl HT.out.one) ?_))
 clear hb1
 generalize w.alloc (.cells o.arr 33) = W at HT
 refine (HN.out _).mono ?_
 rintro e w1 ⟨rfl, hb⟩
 have HT1 := Lib.hid (HT.out.below hb)
 clear hb HT
 go_wp2_with (first | (refine wpList_alloc24 HZ.out rfl rfl ?_) | (refine wpList_stop rfl ?_))
 refine ⟨?_⟩
 refine wpList_store24 rfl rfl rfl rfl (Blk.new w1 24 z.arr) ?_
 have HT2 := Lib.hid (HT1.out.below (laid_old w1 z u))
 clear HT1
 generalize (w1.alloc (.cells z.arr 24)).setRow w1.heap.size u.arr = w2 at HT2
 by_cases hE : E = 0
 ·subst hE
  obtain ⟨hd1, hd2⟩ := HX.out.1 rfl
  have c0 := oc0 HT2.out.one
  by_cases hn : (o.r : Int) < n
  ·cases hv : V.rightB o.v n
   ·have HE : Hid (o.rightB n = false) := Lib.hid (O.right_no (fun h => by have := h.2.2.2.1; rw [hv] at this; cases this))
    rw [hv] at HR
    clear hv hd1 hd2
    go_wp2_with (refine wpList_runW (exec_ctx (p := o) rfl rfl HT2.out.one) (by kernel_rfl) ?_)
    refine (HR.out _).mono ?_
    rintro e w3 ⟨rfl, hb⟩
    have HT3 := Lib.hid (HT2.out.below hb)
    clear hb
    go_wp2_with fail
    go_ret
    exact ⟨ret_bool HE.out.symm, HT3.out.old⟩
   ·by_cases htk : o.t ≤ 1073741824
    ·have HE : Hid (o.rightB n = o.kindB) := Lib.hid (by
      rw [Bool.eq_iff_iff, O.right_iff]
      exact ⟨fun h => h.2.2.2.2.2, fun h => ⟨hd1, hd2, hn, hv, htk, h⟩⟩)
     rw [hv] at HR
     have htk' : (o.t : Int) ≤ 1073741824 := by omega
     clear hv hd1 hd2
     go_wp2_with (refine wpList_runW (exec_ctx (p := o) rfl rfl HT2.out.one) (by kernel_rfl) ?_)
     refine (HR.out _).mono ?_
     rintro e w3 ⟨rfl, hb⟩
     have HT3 := Lib.hid (HT2.out.below hb)
     have c6 := oc6 HT3.out.one
     clear hb
     go_wp2_with (refine wpList_runW (exec_load33 (p := o) rfl rfl HT3.out.one) (by kernel_rfl) ?_)
     refine (HK.out _).mono ?_
     rintro e w4 ⟨rfl, hb⟩
     have HT4 := Lib.hid (HT3.out.below hb)
     clear hb
     go_wp2_with fail
     go_ret
     exact ⟨ret_bool HE.out.symm, HT4.out.old⟩
    ·have HE : Hid (o.rightB n = false) := Lib.hid (O.right_no (fun h => htk h.2.2.2.2.1))
     rw [hv] at HR
     have htk' : (1073741824 : Int) < (o.t : Int) := by omega
     clear hv hd1 hd2
     go_wp2_with (refine wpList_runW (exec_ctx (p := o) rfl rfl HT2.out.one) (by kernel_rfl) ?_)
     refine (HR.out _).mono ?_
     rintro e w3 ⟨rfl, hb⟩
     have HT3 := Lib.hid (HT2.out.below hb)
     have c6 := oc6 HT3.out.one
     clear hb
     go_wp2_with fail
     go_ret
     exact ⟨ret_bool HE.out.symm, HT3.out.old⟩
  ·have HE : Hid (o.rightB n = false) := Lib.hid (O.right_no (fun h => hn h.2.2.1))
   have hn' : n ≤ (o.r : Int) := by omega
   go_wp2_with fail
   go_ret
   exact ⟨ret_bool HE.out.symm, HT2.out.old⟩
 ·have HE : Hid (o.rightB n = false) := Lib.hid (O.right_no (fun h => hE (HX.out.2 ⟨h.1, h.2.1⟩)))
  have g0 : ((E : Int) == 0) = false := by simp <;> omega
  go_wp2_with fail
  go_ret
  exact ⟨ret_bool HE.out.symm, HT2.out.old⟩
theorem ready_any (v : V) (o : O) (w : World) : Calls Tryz.prog 40 #[.agg v.arr, .agg o.arr] w (Says (.int .i64 (O.readyE v o : Int)) w) := by
 have hb1 := fun (o : O) w => box33 o w
 have hb2 := fun (v : V) w => box24 v w
 have HT := Lib.hid (vo_new w v o)
 have HR := Lib.hid (fun w => right_op o 16 w (by omega) (by omega))
 have HH := Lib.hid (fun w => has_any v o.r o.s w o.hr o.hs)
 have HB := Lib.hid (fun w => below_any o.v v w)
 have HL : Hid (O.readyE v o = if o.rightB 16 = true then (if V.hasB v o.r o.s = true then 8 else if V.belowB o.v v = true then 0 else 9) else 2) := Lib.hid rfl
 go_enter Tryz.func40, Tryz.ntmps40
 go_wp2_with (refine wpList_run rfl (exec_load33 (p := o) rfl rfl HT.out.two) ?_)
 clear hb1 hb2
 generalize (w.alloc (.cells v.arr 24)).alloc (.cells o.arr 33) = W at HT
 cases hr : o.rightB 16
 ·have HE : Hid (O.readyE v o = 2) := Lib.hid (by rw [HL.out, hr]; simp)
  rw [hr] at HR
  clear hr
  refine (HR.out _).mono ?_
  rintro e w1 ⟨rfl, hb⟩
  have HT1 := Lib.hid (HT.out.below hb)
  clear hb
  go_wp2_with fail
  go_ret
  exact ⟨by rw [HE.out]; rfl, HT1.out.old⟩
 rw [hr] at HR HL
 clear hr
 refine (HR.out _).mono ?_
 rintro e w1 ⟨rfl, hb⟩
 have HT1 := Lib.hid (HT.out.below hb)
 clear hb HT
 go_wp2_with (first | (refine wpList_run rfl (exec_load24 rfl rfl HT1.out.vec) ?_) | (refine wpList_run rfl (exec_dot (p := o) rfl rfl HT1.out.two) ?_))
 cases hh : V.hasB v o.r o.s
 ·rw [hh] at HH HL
  clear hh
  refine (HH.out _).mono ?_
  rintro e w2 ⟨rfl, hb⟩
  have HT2 := Lib.hid (HT1.out.below hb)
  clear hb HT1
  go_wp2_with (first | (refine wpList_run rfl (exec_load24 rfl rfl HT2.out.vec) ?_) | (refine wpList_run rfl (exec_ctx (p := o) rfl rfl HT2.out.two) ?_))
  cases hl : V.belowB o.v v
  ·have HE : Hid (O.readyE v o = 9) := Lib.hid (by rw [HL.out, hl]; simp)
   rw [hl] at HB
   clear hl
   refine (HB.out _).mono ?_
   rintro e w3 ⟨rfl, hb⟩
   have HT3 := Lib.hid (HT2.out.below hb)
   clear hb
   go_wp2_with fail
   go_ret
   exact ⟨by rw [HE.out]; rfl, HT3.out.old⟩
  ·have HE : Hid (O.readyE v o = 0) := Lib.hid (by rw [HL.out, hl]; simp)
   rw [hl] at HB
   clear hl
   refine (HB.out _).mono ?_
   rintro e w3 ⟨rfl, hb⟩
   have HT3 := Lib.hid (HT2.out.below hb)
   clear hb
   go_wp2_with fail
   go_ret
   exact ⟨by rw [HE.out]; rfl, HT3.out.old⟩
 ·have HE : Hid (O.readyE v o = 8) := Lib.hid (by rw [HL.out, hh]; simp)
  rw [hh] at HH
  clear hh
  refine (HH.out _).mono ?_
  rintro e w2 ⟨rfl, hb⟩
  have HT2 := Lib.hid (HT1.out.below hb)
  clear hb
  go_wp2_with fail
  go_ret
  exact ⟨by rw [HE.out]; rfl, HT2.out.old⟩
end Go.Proofs.YtnekpgmgnepdoaaGreat
end
section
namespace Go.Proofs.YtnekpgmgnepdoaaGreat
open Go.RowKit
def dotN (e : En) : Nat := e.r * 4294967296 + e.s
theorem dotN_eq (a b : En) : dotN a = dotN b ↔ a.r = b.r ∧ a.s = b.s := by
 have := a.hs
 have := b.hs
 unfold dotN
 omega
theorem or_shift (r s : Nat) (hr : r < 256) (hs : s < 4294967296) : bits .or .u64 ((r : Int) * 4294967296) (s : Int) = ((r * 4294967296 + s : Nat) : Int) := by
 have e : bits .or .u64 ((r : Int) * 4294967296) (s : Int) = IntKind.u64.wrap ((BitVec.ofInt 64 ((r : Int) * 4294967296) ||| BitVec.ofInt 64 (s : Int)).toNat : Int) := rfl
 have h1 : (BitVec.ofInt 64 ((r : Int) * 4294967296)).toNat = r * 4294967296 := by
  rw [show ((r : Int) * 4294967296) = ((r * 4294967296 : Nat) : Int) by omega, BitVec.ofInt_natCast, BitVec.toNat_ofNat]
  exact Nat.mod_eq_of_lt (by omega)
 have h2 : (BitVec.ofInt 64 (s : Int)).toNat = s := by
  rw [BitVec.ofInt_natCast, BitVec.toNat_ofNat]; exact Nat.mod_eq_of_lt (by omega)
 have h3 : r * 4294967296 ||| s = r * 4294967296 + s := by
  have := Nat.two_pow_add_eq_or_of_lt (i := 32) (b := s) (by omega) r
  rw [show (2 : Nat) ^ 32 = 4294967296 by rfl, Nat.mul_comm] at this
  exact this.symm
 rw [e, BitVec.toNat_or, h1, h2, h3, IntKind.wrap_u64]
 omega
theorem info67 : (Tryz.prog.info? 67).map (fun i => (i.zero, i.size, i.bytes)) = some (some (.int .u64 0), 1, 8) := by kernel_rfl
theorem und178 : Tryz.prog.underlying 178 = some (.slice 67) := Tryz.underlying178
theorem made_rep (n : Nat) (z : Value) : madeCells #[z] n = Array.replicate n z := by
 apply Array.ext_getElem?
 intro i
 unfold madeCells
 by_cases hi : i < n
 ·simp [hi, Nat.mod_one]
 ·simp [hi]
section
variable {ev : Operand → Value} {q : Oper} {w : World}
theorem exec_mkU {x y : Operand} {n : Nat} (ho : q.op = .makeSlice 178 x y) (hx : ev x = .int .i64 (n : Int)) (hy : ev y = .int .i64 (n : Int)) (hn : n < 1000000) : (execOp ev q).run Tryz.prog w = .ok (.value (.slice (some ⟨w.heap.size, 0, none⟩) n n)) (w.alloc (.cells (Array.replicate n (.int .u64 0)) 67)) := by
 have hm := run_make_row' (P := Tryz.prog) 178 67 (.int .u64 0) 8 und178 info67 rfl .i64 .i64 n (by omega) (by omega) w
 rw [made_rep] at hm
 unfold execOp
 simp only [ho, hx, hy, Sem.run_bind, hm, Result.andThen_ok]
 rfl
theorem exec_idxU {x y : Operand} {g n cap i : Nat} {z : Int} (ho : q.op = .indexAddr 178 x y) (hx : ev x = .slice (some ⟨g, 0, none⟩) n cap) (hy : ev y = .int .i64 z) (hz : z = (i : Int)) (hi : i < n) : (execOp ev q).run Tryz.prog w = .ok (.value (.pointer (some ⟨g, i, none⟩))) w := by
 subst hz
 have u := und178
 unfold execOp
 simp only [ho, hx, hy]
 go_simp
end
def dotsTo (l : List En) (k : Nat) : List Value := ((l.take k).map fun e => Value.int .u64 (dotN e : Int)) ++ List.replicate (l.length - k) (.int .u64 0)
theorem dots_set {l : List En} {k : Nat} {x : En} (hx : l[k]? = some x) : (dotsTo l k).toArray.setIfInBounds k (.int .u64 (dotN x : Int)) = (dotsTo l (k + 1)).toArray := by
 have hk : k < l.length := (List.getElem?_eq_some_iff.1 hx).1
 have e1 : (l.take k).length = k := by simp; omega
 simp only [List.setIfInBounds_toArray]
 congr 1
 unfold dotsTo
 rw [List.set_append_right _ _ (by simp; omega), List.take_add_one, hx]
 simp only [List.length_map, e1, Nat.sub_self, Option.toList_some, List.map_append, List.map_cons, List.map_nil, List.append_assoc]
 congr 1
 rw [show l.length - k = (l.length - (k + 1)) + 1 by omega, List.replicate_succ]
 rfl
def DsR (w : World) (l : List En) (n g : Nat) (v : Value) (W : World) : Prop := ∃ k : Nat, v = .int .i64 (k : Int) ∧ k ≤ n ∧ Hid (Blk W g 67 (dotsTo l k).toArray) ∧ Hid (Below w.heap.size w W)
def OneE (l : List En) : Prop := l.Pairwise fun a b => ¬ (a.r = b.r ∧ a.s = b.s)
theorem oneE_iff (l : List En) : OneE l ↔ (l.map dotN).Nodup := by
 unfold OneE
 rw [List.nodup_iff_pairwise_ne, List.pairwise_map]
 constructor
 ·exact fun h => h.imp fun h e => h ((dotN_eq _ _).1 e)
 ·exact fun h => h.imp fun h e => h ((dotN_eq _ _).2 e)
theorem nodup_of_len : ∀ {l m : List Nat}, m.Nodup → (∀ x ∈ m, x ∈ l) → m.length = l.length → l.Nodup
 | [], _, _, _, _ => List.nodup_nil
 | y :: t, m, hm, hs, hl => by
  have hyt : y ∉ t := fun h => by
   have := hm.length_le_of_subset (l₂ := t) (fun x hx => by
    rcases List.mem_cons.1 (hs x hx) with rfl | h2
    ·exact h
    ·exact h2)
   simp at hl
   omega
  have hym : y ∈ m := Classical.byContradiction fun h => by
   have := hm.length_le_of_subset (l₂ := t) (fun x hx => by
    rcases List.mem_cons.1 (hs x hx) with rfl | h2
    ·exact absurd hx h
    ·exact h2)
   simp at hl
   omega
  refine List.nodup_cons.2 ⟨hyt, nodup_of_len (m := m.erase y) (hm.erase y) (fun x hx => ?_) (by rw [List.length_erase_of_mem hym]; simp at hl; omega)⟩
  have hxm := List.mem_of_mem_erase hx
  rcases List.mem_cons.1 (hs x hxm) with rfl | h2
  ·exact absurd hx (hm.not_mem_erase)
  ·exact h2
theorem nodup_count {l : List Nat} {m : List Nat} (hm : m.Pairwise (· < ·)) (h : ∀ x, x ∈ m ↔ x ∈ l) : m.length = l.length ↔ l.Nodup := by
 have hmn : m.Nodup := List.nodup_iff_pairwise_ne.2 (hm.imp fun h => by omega)
 constructor
 ·exact fun hl => nodup_of_len hmn (fun x hx => (h x).1 hx) hl
 ·intro hl
  have h1 := hmn.length_le_of_subset (l₂ := l) (fun x hx => (h x).1 hx)
  have h2 := hl.length_le_of_subset (l₂ := m) (fun x hx => (h x).2 hx)
  omega
set_option maxRecDepth 100000 in
set_option maxHeartbeats 4000000 in
theorem distinct_any {a : Option Addr} {n cap : Nat} {l : List En} {w : World} (hl : EL w a n l) (hn : n < 100) : Calls Tryz.prog 97 #[.slice a n cap] w (SaysIff (OneE l) w) := by
 have HL := Lib.hid hl
 have HLEN := Lib.hid hl.len'
 obtain ⟨zo, ho⟩ : ∃ z, En.zero = z := ⟨_, rfl⟩
 have HZO := Lib.hid ho
 clear hl ho
 have HB0 : Hid (Below w.heap.size w (w.alloc (.cells (Array.replicate n (.int .u64 0)) 67))) := Lib.hid (below_one _ _)
 have HK0 : Hid (Blk (w.alloc (.cells (Array.replicate n (.int .u64 0)) 67)) w.heap.size 67 (dotsTo l 0).toArray) := Lib.hid (by
  have := Blk.new w 67 (Array.replicate n (.int .u64 0))
  have e : (dotsTo l 0).toArray = Array.replicate n (.int .u64 0) := by unfold dotsTo; rw [HLEN.out]; simp
  rw [e]
  exact this)
 go_enter Tryz.func97, Tryz.ntmps97
 go_wp2_with (refine wpList_run rfl (exec_mkU (n := n) rfl rfl rfl (by omega)) ?_)
 obtain ⟨g, hg⟩ : ∃ g, w.heap.size = g := ⟨_, rfl⟩
 have HG := Lib.hid hg
 rw [hg] at HK0
 rw [hg]
 generalize w.alloc (.cells (Array.replicate n (.int .u64 0)) 67) = w0 at HB0 HK0
 clear hg
 go_loopw [11] (DsR w l n g) (fun v _ => n - (numI v).toNat)
 case atStart => exact ⟨0, rfl, Nat.zero_le _, HK0, HB0⟩
 case round =>
  obtain ⟨k, rfl, hk, HK, HB⟩ := hrel
  clear HB0 HK0
  by_cases hlt : k < n
  ·obtain ⟨b, off, x, rfl, hx, hr⟩ := EL.at (HL.out.below HB.out) hlt
   have HX := Lib.hid hx
   have HR := Lib.hid hr
   clear hx hr
   go_wp2_with (first | (refine wpList_run rfl (exec_idx72 (i := k) rfl rfl rfl rfl hlt) ?_) | (refine wpList_run rfl (exec_ld72 (p := x) rfl rfl HR.out) ?_) | (refine wpList_run rfl (exec_alloc72z HZO.out rfl) ?_) | (refine wpList_stop72 rfl ?_))
   refine ⟨?_⟩
   refine wpList_void rfl rfl (exec_store72 (p := zo) (u := x) rfl rfl rfl (Blk.new wr 72 zo.arr)) ?_
   have H1 := Lib.hid (bo_laid wr 72 zo.arr x.arr)
   generalize (wr.alloc (.cells zo.arr 72)).setRow wr.heap.size x.arr = w1 at H1
   have HK1 := Lib.hid (HK.out.below H1.out.old)
   have HB1 : Hid (Below w.heap.size w w1) := Lib.hid (HB.out.trans (H1.out.old.mono HB.out.size))
   have c4 := ent4 H1.out.one
   have c5 := ent5 H1.out.one
   have xr := x.hr
   have xs := x.hs
   have hcg : w1.cell? ⟨g, k, none⟩ = some (.int .u64 0) := by
    rw [HK1.out.cell]
    have h1 := HLEN.out
    unfold dotsTo
    have e2 : (l.take k).length = k := by simp; omega
    rw [List.getElem?_toArray, List.getElem?_append_right (by simp; omega), List.length_map, e2, Nat.sub_self, List.getElem?_replicate, if_pos (by omega)]
   have hfg : w1.frozen? ⟨g, k, none⟩ = false := HK1.out.frozen k
   have HK2 : Hid (Blk (w1.setCell ⟨g, k, none⟩ (.int .u64 ((x.r * 4294967296 + x.s : Nat) : Int))) g 67 (dotsTo l (k + 1)).toArray) := Lib.hid (by
    have h := HK1.out.set k (.int .u64 (dotN x : Int))
    rw [dots_set HX.out] at h
    exact h)
   have HB2 : Hid (Below w.heap.size w (w1.setCell ⟨g, k, none⟩ (.int .u64 ((x.r * 4294967296 + x.s : Nat) : Int)))) := Lib.hid (HB1.out.trans ((Kept.setCell w1 ⟨g, k, none⟩ _).below HB1.out.size (fun j e => by rw [e, HG.out]; exact Nat.le_refl _)))
   have hos := or_shift x.r x.s xr xs
   go_wp2_with (refine wpList_run rfl (exec_idxU (i := k) rfl rfl rfl rfl hlt) ?_)
   go_roundw
   case rel => exact ⟨k + 1, by go_num, hlt, HK2, HB2⟩
   case measure => simp [numI]; omega
  ·obtain rfl : k = n := by omega
   have HO : Hid (Q.OwnU wr w.heap.size (some ⟨g, 0, none⟩) k k (l.map dotN)) := by
    have hh := HK.out
    have h1 := HLEN.out
    have e : dotsTo l k = Q.encN (l.map dotN) := by
     unfold dotsTo Q.encN
     rw [List.take_of_length_le (by omega), show l.length - k = 0 by omega]
     simp
    rw [e] at hh
    refine Lib.hid ⟨by simp [Q.encN, h1], .inr ⟨g, k, _, rfl, by rw [HG.out]; exact Nat.le_refl _, hh, Nat.le_refl _, by unfold maxLen; omega, by simp [Q.encN, h1], by rw [Nat.mul_one]; exact List.take_of_length_le (by simp [Q.encN, h1])⟩⟩
   have HC := Lib.hid (Q.sortU_any HO.out hn)
   go_wp2_with fail
   refine HC.out.mono ?_
   rintro e w2 ⟨rfl, l2, hp2, hs2, ho2, hk2⟩
   have HC2 := Lib.hid (Q.compU_any ho2 hs2 (by omega))
   have HP2 := Lib.hid hp2
   have HB2 : Hid (Below w.heap.size w w2) := Lib.hid (HB.out.trans (hk2.below HB.out.size (fun j e => by rw [e, HG.out]; exact Nat.le_refl _)))
   clear hp2 hs2 ho2 hk2 HC
   go_wp2_with fail
   refine HC2.out.mono ?_
   rintro e w3 ⟨l3, rfl, hu3, hm3, _, hk3⟩
   have HB3 : Hid (Below w.heap.size w w3) := Lib.hid (HB2.out.trans (hk3.below HB2.out.size (fun j e => by rw [e, HG.out]; exact Nat.le_refl _)))
   have HI : Hid (l3.length = k ↔ OneE l) := Lib.hid (by
    rw [oneE_iff, ← nodup_count hu3 (fun x => by rw [hm3 x, HP2.out.mem_iff]), List.length_map, HLEN.out])
   generalize l3.length = m at HI
   clear hu3 hm3 hk3
   go_wp2_with fail
   go_ret
   exact ⟨decide (m = k), ret_bool (by rw [Bool.eq_iff_iff]; simp; omega), by rw [decide_eq_true_eq]; exact HI.out, HB3.out⟩
end Go.Proofs.YtnekpgmgnepdoaaGreat
end
section
namespace Go.Proofs.YtnekpgmgnepdoaaGreat
open Go.RowKit Go.Maps
def anyE : Value → Option (DataW Value × List MemPlace) := fun v => some (.held v, [])
theorem anyE_inv {v : Value} {z : DataW Value × List MemPlace} (h : anyE v = some z) : z = (.held v, []) := (Option.some.inj h).symm
structure MpD (w : World) (k m n : Nat) (f : Lit → Option Value) (D : DataW Value) : Prop where
 own : w.ownsMap Tryz.prog k anyE m n D
 size : Maps.size D = n
 has : ∀ kl, Maps.has D kl = (f kl).isSome
 val : ∀ kl v, f kl = some v → ∀ z, D.atKey kl z = .held v
def MpF (w : World) (k m n : Nat) (f : Lit → Option Value) : Prop := ∃ D, MpD w k m n f D
theorem MpF.lt {w : World} {k m n : Nat} {f : Lit → Option Value} (h : MpF w k m n f) : m < w.heap.size := by
 obtain ⟨D, h⟩ := h; exact h.own.lt
theorem MpF.kept {S : Nat → Prop} {w w' : World} {k m n : Nat} {f : Lit → Option Value} (h : MpF w k m n f) (kp : Kept S w w') (hn : ¬ S m) : MpF w' k m n f := by
 obtain ⟨D, h⟩ := h
 have hlt := h.own.lt
 obtain ⟨es, clock, hb, rest⟩ := h.own
 exact ⟨D, ⟨es, clock, (kp.block m hlt hn).trans hb, rest⟩, h.size, h.has, h.val⟩
theorem MpF.below {w w' : World} {k m n : Nat} {f : Lit → Option Value} (h : MpF w k m n f) (hb : Below w.heap.size w w') : MpF w' k m n f :=
 h.kept (S := fun _ => False) (.of_below hb) (fun h => h)
theorem mpF_new (w : World) (k : Nat) : MpF (w.alloc (.map #[] 0)) k w.heap.size 0 (fun _ => none) :=
 ⟨_, World.ownsMap_made w Tryz.prog k anyE, rfl, fun _ => rfl, fun _ _ h => by cases h⟩
open Classical in
noncomputable def upd (f : Lit → Option Value) (kl : Lit) (v : Value) : Lit → Option Value := fun x => if x = kl then some v else f x
theorem upd_same (f : Lit → Option Value) (kl : Lit) (v : Value) : upd f kl v kl = some v := by unfold upd; exact if_pos rfl
theorem upd_other (f : Lit → Option Value) {kl x : Lit} (v : Value) (h : x ≠ kl) : upd f kl v x = f x := by unfold upd; exact if_neg h
section
variable {w : World} {k m n t e : Nat} {f : Lit → Option Value}
theorem MpF.look (h : MpF w k m n f) (K : Keyed Tryz.prog k) (ht : Tryz.prog.underlying t = some (.map k e)) {z : Value} (hz : (zeroValue e).run Tryz.prog w = .ok z w) {key : Value} {kl : Lit} (hkey : keyOf Tryz.prog k key = some kl) :
  (Instr.lookup t (.map (some m)) key false).run Tryz.prog w = .ok ((f kl).getD z) w := by
 obtain ⟨D, h⟩ := h
 obtain ⟨v, ps, hrun, hv⟩ := h.own.lookup K ht hz (zd := .held z) (zp := []) rfl hkey
 rw [hrun]
 have e1 := anyE_inv hv
 simp only [Prod.mk.injEq] at e1
 cases hf : f kl with
 | none =>
  have hn := h.has kl
  rw [hf] at hn
  have e2 := atKey_of_not_has (D := D) (k := kl) hn (.held z)
  rw [e2] at e1
  have := e1.1
  rw [← DataW.held.inj this]
  rfl
 | some u =>
  rw [h.val kl u hf] at e1
  have := e1.1
  rw [← DataW.held.inj this]
  rfl
theorem MpF.look_ok (h : MpF w k m n f) (K : Keyed Tryz.prog k) (ht : Tryz.prog.underlying t = some (.map k e)) {z : Value} (hz : (zeroValue e).run Tryz.prog w = .ok z w) {key : Value} {kl : Lit} (hkey : keyOf Tryz.prog k key = some kl) :
  (Instr.lookup t (.map (some m)) key true).run Tryz.prog w = .ok (.tuple #[(f kl).getD z, .bool (f kl).isSome]) w := by
 obtain ⟨D, h⟩ := h
 obtain ⟨v, ps, hrun, hv⟩ := h.own.look_ok K ht hz (zd := .held z) (zp := []) rfl hkey
 rw [hrun, h.has kl]
 have e1 := anyE_inv hv
 simp only [Prod.mk.injEq] at e1
 cases hf : f kl with
 | none =>
  have hn := h.has kl
  rw [hf] at hn
  have e2 := atKey_of_not_has (D := D) (k := kl) hn (.held z)
  rw [e2] at e1
  have := e1.1
  rw [← DataW.held.inj this]
  rfl
 | some u =>
  rw [h.val kl u hf] at e1
  have := e1.1
  rw [← DataW.held.inj this]
  rfl
theorem MpF.put (h : MpF w k m n f) (K : Keyed Tryz.prog k) (ht : Tryz.prog.underlying t = some (.map k e)) (hn : n < 1000000) {key v : Value} {kl : Lit} (hkey : keyOf Tryz.prog k key = some kl) :
  ∃ w2, (Instr.mapUpdate t (.map (some m)) key v).run Tryz.prog w = .ok () w2 ∧ MpF w2 k m (if (f kl).isSome then n else n + 1) (upd f kl v) ∧ Kept (fun i => i = m) w w2 := by
 obtain ⟨D, h⟩ := h
 obtain ⟨w2, hrun, ho, hg⟩ := h.own.update K ht (by unfold maxLen; omega) hkey (val := v) (d := .held v) (ps := []) rfl
 have hm := h.own.isMap
 have hk := K.key hkey
 have hs : Maps.size (D.put kl (.held v)) = if (f kl).isSome then n else n + 1 := by
  rw [size_put (h.own.tidy K), h.has kl, h.size]
 refine ⟨w2, hrun, ⟨_, ?_, hs, fun x => ?_, fun x u hx z => ?_⟩, (Kept.of_grown hg).mono fun i hi => by simpa using hi.symm⟩
 ·obtain ⟨es, clock, hb, F, hle, hD⟩ := ho
  refine ⟨es, clock, hb, F, ?_, hD⟩
  have := congrArg Maps.size hD
  rw [hs] at this
  simp only [Maps.size, length_sorted, List.length_map, Array.length_toList] at this
  omega
 ·by_cases e : x = kl
  ·subst e
   rw [has_put_same hm hk, upd_same]; rfl
  ·rw [has_put_other e, h.has x, upd_other f v e]
 ·by_cases e : x = kl
  ·subst e
   rw [upd_same] at hx
   obtain rfl := Option.some.inj hx
   exact atKey_put_same hm hk _ z
  ·rw [upd_other f v e] at hx
   rw [atKey_put_other e, h.val x u hx]
end
end Go.Proofs.YtnekpgmgnepdoaaGreat
end
