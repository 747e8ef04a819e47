import Derived.Shelf.SlicesE.Compact
import Derived.Sort.LotD2
import Derived.Test.YtnekpgmgnepdoaaGreatXac
namespace Go.Proofs.YtnekpgmgnepdoaaGreat
open Go.RowKit
def SaysIff (P : Prop) (w : World) (e : Ending) (w' : World) : Prop := ∃ b : Bool, e = .returned (.bool b) ∧ (b = true ↔ P) ∧ Below w.heap.size w w'
def En.okB (e : En) : Bool := decide (1 ≤ e.n ∧ e.n ≤ 16777217) && e.shapedB
set_option maxRecDepth 100000 in
set_option maxHeartbeats 1000000 in
theorem rightEntry_any (e : En) (w : World) : Calls Tryz.prog 96 #[.agg e.arr] w (Says (.bool e.okB) w) := by
 have hb1 := fun (o : En) w => box72 o w
 have H1 := Lib.hid (bo_new w 72 e.arr)
 have HL : Hid (e.okB = (decide (1 ≤ e.n ∧ e.n ≤ 16777217) && decide ((e.k = 1 ∧ 1 ≤ e.q) ∨ e.k = 2 ∨ (e.k = 4 ∧ e.i = 0 ∧ e.q = 0)))) := Lib.hid rfl
 generalize e.okB = ok at HL ⊢
 go_enter Tryz.func96, Tryz.ntmps96
 go_upto_region 1 with fail
 clear hb1
 generalize w.alloc (.cells e.arr 72) = W at H1
 have c6 := ent6 H1.out.one
 have c3 := ent3 H1.out.one
 have c2 := ent2 H1.out.one
 have c1 := ent1 H1.out.one
 by_cases h1 : 1 ≤ e.n
 ·have g1 : decide ((e.n : Int) < 1) = false := by simp; omega
  by_cases h2 : e.n ≤ 16777217
  ·have g2 : decide ((16777217 : Int) < (e.n : Int)) = false := by simp; omega
   have H12 := Lib.hid (And.intro h1 h2)
   clear h1 h2
   by_cases k1 : e.k = 1
   ·rw [k1] at c3
    have HE : Hid (ok = decide (1 ≤ e.q)) := Lib.hid (by rw [HL.out, decide_eq_true H12.out, k1]; simp)
    clear k1
    go_wp2_with fail
    go_ret
    exact ⟨ret_bool (by rw [HE.out, Bool.eq_iff_iff]; simp <;> omega), H1.out.old⟩
   ·by_cases k2 : e.k = 2
    ·rw [k2] at c3
     have HE : Hid (ok = true) := Lib.hid (by rw [HL.out, decide_eq_true H12.out, k2]; simp)
     clear k2
     go_wp2_with fail
     go_ret
     exact ⟨ret_bool HE.out.symm, H1.out.old⟩
    ·have q1 : ((e.k : Int) == 1) = false := by rw [beq_eq_false_iff_ne]; omega
     have q2 : ((e.k : Int) == 2) = false := by rw [beq_eq_false_iff_ne]; omega
     by_cases k4 : e.k = 4
     ·rw [k4] at c3
      by_cases hi : e.i = 0
      ·rw [hi] at c1
       have HE : Hid (ok = decide (e.q = 0)) := Lib.hid (by rw [HL.out, decide_eq_true H12.out, k4, hi]; simp)
       clear k4 hi q1 q2
       go_wp2_with fail
       go_ret
       exact ⟨ret_bool (by rw [HE.out, Bool.eq_iff_iff]; simp <;> omega), H1.out.old⟩
      ·have HE : Hid (ok = false) := Lib.hid (by rw [HL.out, k4]; simp [hi])
       have q3 : ((e.i : Int) == 0) = false := by rw [beq_eq_false_iff_ne]; omega
       clear k4 q1 q2
       go_wp2_with fail
       go_ret
       exact ⟨ret_bool HE.out.symm, H1.out.old⟩
     ·have HE : Hid (ok = false) := Lib.hid (by rw [HL.out]; simp [k1, k2, k4])
      have q4 : ((e.k : Int) == 4) = false := by rw [beq_eq_false_iff_ne]; omega
      go_wp2_with fail
      go_ret
      exact ⟨ret_bool HE.out.symm, H1.out.old⟩
  ·have HE : Hid (ok = false) := Lib.hid (by rw [HL.out, decide_eq_false (fun h => h2 h.2)]; rfl)
   have g2 : decide ((16777217 : Int) < (e.n : Int)) = true := by simp; omega
   go_wp2_with fail
   go_ret
   exact ⟨ret_bool HE.out.symm, H1.out.old⟩
 ·have HE : Hid (ok = false) := Lib.hid (by rw [HL.out, decide_eq_false (fun h => h1 h.1)]; rfl)
  have g1 : decide ((e.n : Int) < 1) = true := by simp; omega
  go_wp2_with fail
  go_ret
  exact ⟨ret_bool HE.out.symm, H1.out.old⟩
theorem cmpN_lt (x c : Nat) : cmpN x c < 0 ↔ x < c := by unfold cmpN; repeat' split <;> omega
theorem cmpN_eq (x c : Nat) : cmpN x c = 0 ↔ x = c := by unfold cmpN; repeat' split <;> omega
theorem up_get {l : List La} (h : l.Pairwise fun a b => a.c < b.c) {i j : Nat} {x y : La} (hij : i < j) (hx : l[i]? = some x) (hy : l[j]? = some y) : x.c < y.c := by
 have h1 := (List.getElem?_eq_some_iff.1 hx)
 have h2 := (List.getElem?_eq_some_iff.1 hy)
 have := List.pairwise_iff_getElem.1 h i j h1.1 h2.1 hij
 rw [h1.2, h2.2] at this
 exact this
theorem mono_tick {l : List La} (h : l.Pairwise fun a b => a.c < b.c) (c : Nat) : Mono l fun y => cmpN y.c c := fun i j x y hij hx hy hn => by
 simp only at hn ⊢
 rw [cmpN_lt] at hn ⊢
 by_cases e : i = j
 ·subst e
  rw [hx] at hy
  cases hy
  exact hn
 ·have := up_get h (by omega) hx hy
  omega
def tkIx (l : List La) (c : Nat) : Nat := l.countP fun y => decide (y.c < c)
theorem tkIx_eq (l : List La) (c : Nat) : (l.countP fun y => decide (cmpN y.c c < 0)) = tkIx l c := by
 unfold tkIx
 congr 1
 funext y
 rw [Bool.eq_iff_iff, decide_eq_true_eq, decide_eq_true_eq, cmpN_lt]
theorem found_eq {l : List La} (h : l.Pairwise fun a b => a.c < b.c) (c : Nat) : (foundB l fun y => cmpN y.c c) = (tkOf l c).isSome := by
 rw [Bool.eq_iff_iff, tkOf_some]
 unfold foundB
 rw [tkIx_eq]
 constructor
 ·intro hf
  cases hy : l[tkIx l c]? with
  | none => rw [hy] at hf; cases hf
  | some y =>
   rw [hy] at hf
   simp only [decide_eq_true_eq, cmpN_eq] at hf
   exact ⟨y, List.mem_of_getElem? hy, hf⟩
 ·rintro ⟨t, ht, hc⟩
  obtain ⟨y, h1, h2, _⟩ := ticked_old (x := ⟨c, 0, by rw [← hc]; exact t.hc, by omega⟩) h ⟨t, ht, hc⟩ (k := tkIx l c) rfl
  rw [h1]
  simp only [decide_eq_true_eq, cmpN_eq]
  exact h2
set_option maxRecDepth 100000 in
theorem tickIndex_any {a : Option Addr} {n cap : Nat} {l : List La} {w : World} (hl : LL w a n l) (hn : n < 500000) (hs : l.Pairwise fun a b => a.c < b.c) (c : Nat) : Calls Tryz.prog 61 #[.slice a n cap, .int .u16 (c : Int)] w (FindP (tkIx l c) (tkOf l c).isSome w) := by
 have HB := Lib.hid (bsL_any (cap := cap) hl hn c (mono_tick hs c))
 rw [tkIx_eq, found_eq hs] at HB
 generalize tkIx l c = k at HB ⊢
 generalize (tkOf l c).isSome = f at HB ⊢
 clear hl hs
 go_enter Tryz.func61, Tryz.ntmps61
 go_wp2_with fail
 refine HB.out.mono ?_
 rintro e w' ⟨rfl, hg⟩
 have HG := Lib.hid hg
 clear hg
 go_wp2_with fail
 go_ret2
 exact ⟨rfl, HG.out⟩
structure TsTo (l : List La) (k : Nat) : Prop where
 le : ∀ t ∈ l.take k, t.t ≤ 1073741824
 up : (l.take k).Pairwise fun a b => a.c < b.c
theorem TsTo.all {l : List La} {n : Nat} (h : TsTo l n) (hn : l.length ≤ n) : TsR l := by
 obtain ⟨h1, h2⟩ := h
 rw [List.take_of_length_le hn] at h1 h2
 exact ⟨h1, h2⟩
theorem TsTo.next {l : List La} {k : Nat} {x : La} (h : TsTo l k) (hx : l[k]? = some x) (ht : x.t ≤ 1073741824) (hp : ∀ y, 0 < k → l[k - 1]? = some y → y.c < x.c) : TsTo l (k + 1) := by
 refine ⟨fun t ht2 => ?_, ?_⟩
 ·rw [List.take_add_one, hx] at ht2
  rcases List.mem_append.1 ht2 with h2 | h2
  ·exact h.le t h2
  ·obtain rfl : t = x := by simpa using h2
   exact ht
 ·rw [List.take_add_one, hx, List.pairwise_append]
  refine ⟨h.up, by simp, fun a ha b hb => ?_⟩
  obtain rfl : b = x := by simpa using hb
  by_cases h0 : 0 < k
  ·have hkl : k - 1 < l.length := by have := (List.getElem?_eq_some_iff.1 hx).1; omega
   have hy := List.getElem?_eq_getElem hkl
   have h1 := hp _ h0 hy
   obtain ⟨i, hi, rfl⟩ := List.getElem_of_mem ha
   simp only [List.length_take] at hi
   by_cases e : i = k - 1
   ·subst e
    simpa using h1
   ·have h2 := List.pairwise_iff_getElem.1 h.up i (k - 1) (by simp; omega) (by simp; omega) (by omega)
    simp only [List.getElem_take] at h2 ⊢
    omega
  ·have : k = 0 := by omega
   subst this
   simp at ha
structure RtS (w W : World) (x : La) (b o : Nat) (y : La) : Prop where
 el : Blk W w.heap.size 96 x.arr
 pr : W.cell? ⟨b, o, none⟩ = some (.int .u16 (y.c : Int))
def RtR (w : World) (l : List La) (n : Nat) (v : Value) (W : World) : Prop := ∃ k : Nat, v = .int .i64 (k : Int) ∧ k ≤ n ∧ Hid (TsTo l k) ∧ Hid (Below w.heap.size w W)
set_option maxRecDepth 100000 in
set_option maxHeartbeats 4000000 in
theorem rightTicks_any {a : Option Addr} {n cap : Nat} {l : List La} {w : World} (hl : LL w a n l) (hn : n < 500000) : Calls Tryz.prog 51 #[.slice a n cap] w (SaysIff (TsR l) w) := by
 have HL := Lib.hid hl
 have HLEN := Lib.hid hl.len'
 obtain ⟨zo, ho⟩ : ∃ z, La.zero = z := ⟨_, rfl⟩
 have HZO := Lib.hid ho
 clear hl ho
 go_enter Tryz.func51, Tryz.ntmps51
 go_wp2_with fail
 go_loopw [7] (RtR w l n) (fun v _ => n - (numI v).toNat)
 case atStart => exact ⟨0, rfl, Nat.zero_le _, Lib.hid ⟨by simp, by simp⟩, Lib.hid (Below.refl _ _)⟩
 case round =>
  obtain ⟨k, rfl, hk, HT, HB⟩ := hrel
  by_cases hlt : k < n
  ·obtain ⟨b, off, x, rfl, hx, hr⟩ := LL.at (HL.out.below HB.out) hlt
   have HX := Lib.hid hx
   have HR := Lib.hid hr
   clear hx hr
   go_wp2_with (first | (refine wpList_run rfl (exec_idx96 (i := k) rfl rfl rfl rfl hlt) ?_) | (refine wpList_run rfl (exec_ld96 (p := x) rfl rfl HR.out) ?_) | (refine wpList_run rfl (exec_alloc96z HZO.out rfl) ?_) | (refine wpList_stop96 rfl ?_))
   refine ⟨?_⟩
   refine wpList_void rfl rfl (exec_store96 (p := zo) (u := x) rfl rfl rfl (Blk.new wr 96 zo.arr)) ?_
   have H1 := Lib.hid (bo_laid wr 96 zo.arr x.arr)
   generalize (wr.alloc (.cells zo.arr 96)).setRow wr.heap.size x.arr = w1 at H1
   have HB1 : Hid (Below w.heap.size w w1) := Lib.hid (HB.out.trans (H1.out.old.mono HB.out.size))
   by_cases ht : x.t ≤ 1073741824
   ·have hq : decide ((1073741824 : Int) < (x.t : Int)) = false := by simp; omega
    by_cases h0 : 0 < k
    ·have hk0 : decide ((0 : Int) < (k : Int)) = true := by simp; omega
     obtain ⟨b2, off2, y, e2, hy, hr2⟩ := LL.at (HL.out.below HB1.out) (i := k - 1) (by omega)
     simp only [Option.some.injEq, Addr.mk.injEq, and_true] at e2
     obtain ⟨rfl, rfl⟩ := e2
     have HY := Lib.hid hy
     have HS : Hid (RtS wr w1 x b (off + (k - 1) * 2) y) := Lib.hid ⟨H1.out.one, by have := hr2 0 (.int .u16 (y.c : Int)) rfl; rwa [Nat.add_zero] at this⟩
     clear hy hr2
     by_cases hc2 : y.c < x.c
     ·have hc : decide ((x.c : Int) ≤ (y.c : Int)) = false := by simp; omega
      go_wp2_with fail
      refine wp_region_held_drew (S := fun w' => RtS wr w' x b (off + (k - 1) * 2) y) (by kernel_rfl) ⟨HS.out.el, HS.out.pr⟩ (fun hS => ?_)
      refine held_tk 0 12 (.pointer (some ⟨wr.heap.size,1,none⟩)) rfl rfl (by kernel_rfl) (fun _ _ _ h=>h) (fun _ _=>(by kernel_rfl)) hS ?_;simp only [Act.put,ap1,ap2,ap3]
      refine held_tk 1 13 (.int .u32 (x.t : Int)) rfl rfl (by kernel_rfl) (fun _ _ _ h=>h) (fun _ h=>exec_cell rfl rfl (load_cell (by kernel_rfl) (lat1 h.el))) hS ?_;simp only [Act.put,ap1,ap2,ap3]
      refine held_tk 2 14 (.bool false) rfl rfl (by kernel_rfl) (fun _ _ _ h=>h) (fun _ _=>exec_gtrI rfl rfl rfl hq) hS ?_;simp only [Act.put,ap1,ap2,ap3]
      refine held_tk 3 15 (.bool false) rfl rfl (by kernel_rfl) (fun _ _ _ h=>h) (fun _ _=>rfl) hS ?_;simp only [Act.put,ap1,ap2,ap3]
      refine held_tk 4 16 (.int .i64 (k : Int)) rfl rfl (by kernel_rfl) (fun _ _ _ h=>h) (fun _ _=>rfl) hS ?_;simp only [Act.put,ap1,ap2,ap3]
      refine held_tk 5 17 (.bool true) rfl rfl (by kernel_rfl) (fun _ _ _ h=>h) (fun _ _=>exec_gtrI rfl rfl rfl hk0) hS ?_;simp only [Act.put,ap1,ap2,ap3]
      refine held_tk 6 18 (.bool true) rfl rfl (by kernel_rfl) (fun _ _ _ h=>h) (fun _ _=>rfl) hS ?_;simp only [Act.put,ap1,ap2,ap3]
      refine held_tk 7 19 (.slice (some ⟨b,off,none⟩) n cap) rfl rfl (by kernel_rfl) (fun _ _ _ h=>h) (fun _ _=>rfl) hS ?_;simp only [Act.put,ap1,ap2,ap3]
      refine held_tk 8 20 (.int .i64 (k : Int)) rfl rfl (by kernel_rfl) (fun _ _ _ h=>h) (fun _ _=>rfl) hS ?_;simp only [Act.put,ap1,ap2,ap3]
      refine held_tk 9 21 (.int .i64 ((k : Int) - 1)) rfl rfl (by kernel_rfl) (fun _ _ _ h=>h) (fun _ _=>exec_subN rfl rfl rfl rfl (by omega) (by omega)) hS ?_;simp only [Act.put,ap1,ap2,ap3]
      refine held_tk 10 22 (.pointer (some ⟨b,off + (k - 1) * 2,none⟩)) rfl rfl (by kernel_rfl) (fun _ _ _ h=>h) (fun _ _=>exec_idx96 (i:=k - 1) rfl rfl rfl (by omega) (by omega)) hS ?_;simp only [Act.put,ap1,ap2,ap3]
      refine held_tk 11 23 (.pointer (some ⟨b,off + (k - 1) * 2,none⟩)) rfl rfl (by kernel_rfl) (fun _ _ _ h=>h) (fun _ _=>(by kernel_rfl)) hS ?_;simp only [Act.put,ap1,ap2,ap3]
      refine held_tk 12 24 (.int .u16 (y.c : Int)) rfl rfl (by kernel_rfl) (fun _ _ _ h=>h) (fun _ h=>exec_cell rfl rfl (load_cell (by kernel_rfl) h.pr)) hS ?_;simp only [Act.put,ap1,ap2,ap3]
      refine held_tk 13 25 (.pointer (some ⟨wr.heap.size,0,none⟩)) rfl rfl (by kernel_rfl) (fun _ _ _ h=>h) (fun _ _=>(by kernel_rfl)) hS ?_;simp only [Act.put,ap1,ap2,ap3]
      refine held_tk 14 26 (.int .u16 (x.c : Int)) rfl rfl (by kernel_rfl) (fun _ _ _ h=>h) (fun _ h=>exec_cell rfl rfl (load_cell (by kernel_rfl) (lat0 h.el))) hS ?_;simp only [Act.put,ap1,ap2,ap3]
      refine held_tk 15 27 (.bool false) rfl rfl (by kernel_rfl) (fun _ _ _ h=>h) (fun _ _=>exec_geqI rfl rfl rfl hc) hS ?_;simp only [Act.put,ap1,ap2,ap3]
      refine held_tk 16 28 (.bool false) rfl rfl (by kernel_rfl) (fun _ _ _ h=>h) (fun _ _=>rfl) hS ?_;simp only [Act.put,ap1,ap2,ap3]
      refine held_tk 17 29 (.bool false) rfl rfl (by kernel_rfl) (fun _ _ _ h=>h) (fun _ _=>rfl) hS ?_;simp only [Act.put,ap1,ap2,ap3]
      refine wpAnyH_done (by kernel_rfl) ?_ _
      have HN : Hid (TsTo l (k + 1)) := Lib.hid (HT.out.next HX.out ht (fun z _ hz => by rw [HY.out] at hz; cases hz; exact hc2))
      clear hS
      go_wp2_with fail
      go_roundw
      case rel => exact ⟨k + 1, by go_num, hlt, HN, Lib.hid HB1.out.drew⟩
      case measure => simp [numI]; omega
     ·have hc : decide ((x.c : Int) ≤ (y.c : Int)) = true := by simp; omega
      have HN : Hid (¬ TsR l) := Lib.hid (fun h => hc2 (up_get h.up (by omega) HY.out HX.out))
      go_wp2_with fail
      refine wp_region_held_drew (S := fun w' => RtS wr w' x b (off + (k - 1) * 2) y) (by kernel_rfl) ⟨HS.out.el, HS.out.pr⟩ (fun hS => ?_)
      refine held_tk 0 12 (.pointer (some ⟨wr.heap.size,1,none⟩)) rfl rfl (by kernel_rfl) (fun _ _ _ h=>h) (fun _ _=>(by kernel_rfl)) hS ?_;simp only [Act.put,ap1,ap2,ap3]
      refine held_tk 1 13 (.int .u32 (x.t : Int)) rfl rfl (by kernel_rfl) (fun _ _ _ h=>h) (fun _ h=>exec_cell rfl rfl (load_cell (by kernel_rfl) (lat1 h.el))) hS ?_;simp only [Act.put,ap1,ap2,ap3]
      refine held_tk 2 14 (.bool false) rfl rfl (by kernel_rfl) (fun _ _ _ h=>h) (fun _ _=>exec_gtrI rfl rfl rfl hq) hS ?_;simp only [Act.put,ap1,ap2,ap3]
      refine held_tk 3 15 (.bool false) rfl rfl (by kernel_rfl) (fun _ _ _ h=>h) (fun _ _=>rfl) hS ?_;simp only [Act.put,ap1,ap2,ap3]
      refine held_tk 4 16 (.int .i64 (k : Int)) rfl rfl (by kernel_rfl) (fun _ _ _ h=>h) (fun _ _=>rfl) hS ?_;simp only [Act.put,ap1,ap2,ap3]
      refine held_tk 5 17 (.bool true) rfl rfl (by kernel_rfl) (fun _ _ _ h=>h) (fun _ _=>exec_gtrI rfl rfl rfl hk0) hS ?_;simp only [Act.put,ap1,ap2,ap3]
      refine held_tk 6 18 (.bool true) rfl rfl (by kernel_rfl) (fun _ _ _ h=>h) (fun _ _=>rfl) hS ?_;simp only [Act.put,ap1,ap2,ap3]
      refine held_tk 7 19 (.slice (some ⟨b,off,none⟩) n cap) rfl rfl (by kernel_rfl) (fun _ _ _ h=>h) (fun _ _=>rfl) hS ?_;simp only [Act.put,ap1,ap2,ap3]
      refine held_tk 8 20 (.int .i64 (k : Int)) rfl rfl (by kernel_rfl) (fun _ _ _ h=>h) (fun _ _=>rfl) hS ?_;simp only [Act.put,ap1,ap2,ap3]
      refine held_tk 9 21 (.int .i64 ((k : Int) - 1)) rfl rfl (by kernel_rfl) (fun _ _ _ h=>h) (fun _ _=>exec_subN rfl rfl rfl rfl (by omega) (by omega)) hS ?_;simp only [Act.put,ap1,ap2,ap3]
      refine held_tk 10 22 (.pointer (some ⟨b,off + (k - 1) * 2,none⟩)) rfl rfl (by kernel_rfl) (fun _ _ _ h=>h) (fun _ _=>exec_idx96 (i:=k - 1) rfl rfl rfl (by omega) (by omega)) hS ?_;simp only [Act.put,ap1,ap2,ap3]
      refine held_tk 11 23 (.pointer (some ⟨b,off + (k - 1) * 2,none⟩)) rfl rfl (by kernel_rfl) (fun _ _ _ h=>h) (fun _ _=>(by kernel_rfl)) hS ?_;simp only [Act.put,ap1,ap2,ap3]
      refine held_tk 12 24 (.int .u16 (y.c : Int)) rfl rfl (by kernel_rfl) (fun _ _ _ h=>h) (fun _ h=>exec_cell rfl rfl (load_cell (by kernel_rfl) h.pr)) hS ?_;simp only [Act.put,ap1,ap2,ap3]
      refine held_tk 13 25 (.pointer (some ⟨wr.heap.size,0,none⟩)) rfl rfl (by kernel_rfl) (fun _ _ _ h=>h) (fun _ _=>(by kernel_rfl)) hS ?_;simp only [Act.put,ap1,ap2,ap3]
      refine held_tk 14 26 (.int .u16 (x.c : Int)) rfl rfl (by kernel_rfl) (fun _ _ _ h=>h) (fun _ h=>exec_cell rfl rfl (load_cell (by kernel_rfl) (lat0 h.el))) hS ?_;simp only [Act.put,ap1,ap2,ap3]
      refine held_tk 15 27 (.bool true) rfl rfl (by kernel_rfl) (fun _ _ _ h=>h) (fun _ _=>exec_geqI rfl rfl rfl hc) hS ?_;simp only [Act.put,ap1,ap2,ap3]
      refine held_tk 16 28 (.bool true) rfl rfl (by kernel_rfl) (fun _ _ _ h=>h) (fun _ _=>rfl) hS ?_;simp only [Act.put,ap1,ap2,ap3]
      refine held_tk 17 29 (.bool true) rfl rfl (by kernel_rfl) (fun _ _ _ h=>h) (fun _ _=>rfl) hS ?_;simp only [Act.put,ap1,ap2,ap3]
      refine wpAnyH_done (by kernel_rfl) ?_ _
      clear hS
      go_wp2_with fail
      go_ret
      exact ⟨false, rfl, by simp [HN.out], HB1.out.drew⟩
    ·have hk0 : decide ((0 : Int) < (k : Int)) = false := by simp; omega
     have HS : Hid (RtS wr w1 x wr.heap.size 0 x) := Lib.hid ⟨H1.out.one, lat0 H1.out.one⟩
     go_wp2_with fail
     refine wp_region_held_drew (S := fun w' => RtS wr w' x wr.heap.size 0 x) (by kernel_rfl) ⟨HS.out.el, HS.out.pr⟩ (fun hS => ?_)
     refine held_tk 0 12 (.pointer (some ⟨wr.heap.size,1,none⟩)) rfl rfl (by kernel_rfl) (fun _ _ _ h=>h) (fun _ _=>(by kernel_rfl)) hS ?_;simp only [Act.put,ap1,ap2,ap3]
     refine held_tk 1 13 (.int .u32 (x.t : Int)) rfl rfl (by kernel_rfl) (fun _ _ _ h=>h) (fun _ h=>exec_cell rfl rfl (load_cell (by kernel_rfl) (lat1 h.el))) hS ?_;simp only [Act.put,ap1,ap2,ap3]
     refine held_tk 2 14 (.bool false) rfl rfl (by kernel_rfl) (fun _ _ _ h=>h) (fun _ _=>exec_gtrI rfl rfl rfl hq) hS ?_;simp only [Act.put,ap1,ap2,ap3]
     refine held_tk 3 15 (.bool false) rfl rfl (by kernel_rfl) (fun _ _ _ h=>h) (fun _ _=>rfl) hS ?_;simp only [Act.put,ap1,ap2,ap3]
     refine held_tk 4 16 (.int .i64 (k : Int)) rfl rfl (by kernel_rfl) (fun _ _ _ h=>h) (fun _ _=>rfl) hS ?_;simp only [Act.put,ap1,ap2,ap3]
     refine held_tk 5 17 (.bool false) rfl rfl (by kernel_rfl) (fun _ _ _ h=>h) (fun _ _=>exec_gtrI rfl rfl rfl hk0) hS ?_;simp only [Act.put,ap1,ap2,ap3]
     refine held_tk 6 18 (.bool false) rfl rfl (by kernel_rfl) (fun _ _ _ h=>h) (fun _ _=>rfl) hS ?_;simp only [Act.put,ap1,ap2,ap3]
     refine held_sk 7 19 rfl rfl (by kernel_rfl) (fun _ _ _ h=>h) hS ?_;simp only [Act.put,ap1,ap2,ap3]
     refine held_sk 8 20 rfl rfl (by kernel_rfl) (fun _ _ _ h=>h) hS ?_;simp only [Act.put,ap1,ap2,ap3]
     refine held_sk 9 21 rfl rfl (by kernel_rfl) (fun _ _ _ h=>h) hS ?_;simp only [Act.put,ap1,ap2,ap3]
     refine held_sk 10 22 rfl rfl (by kernel_rfl) (fun _ _ _ h=>h) hS ?_;simp only [Act.put,ap1,ap2,ap3]
     refine held_sk 11 23 rfl rfl (by kernel_rfl) (fun _ _ _ h=>h) hS ?_;simp only [Act.put,ap1,ap2,ap3]
     refine held_sk 12 24 rfl rfl (by kernel_rfl) (fun _ _ _ h=>h) hS ?_;simp only [Act.put,ap1,ap2,ap3]
     refine held_sk 13 25 rfl rfl (by kernel_rfl) (fun _ _ _ h=>h) hS ?_;simp only [Act.put,ap1,ap2,ap3]
     refine held_sk 14 26 rfl rfl (by kernel_rfl) (fun _ _ _ h=>h) hS ?_;simp only [Act.put,ap1,ap2,ap3]
     refine held_sk 15 27 rfl rfl (by kernel_rfl) (fun _ _ _ h=>h) hS ?_;simp only [Act.put,ap1,ap2,ap3]
     refine held_tk 16 28 (.bool false) rfl rfl (by kernel_rfl) (fun _ _ _ h=>h) (fun _ _=>rfl) hS ?_;simp only [Act.put,ap1,ap2,ap3]
     refine held_tk 17 29 (.bool false) rfl rfl (by kernel_rfl) (fun _ _ _ h=>h) (fun _ _=>rfl) hS ?_;simp only [Act.put,ap1,ap2,ap3]
     refine wpAnyH_done (by kernel_rfl) ?_ _
     have HN : Hid (TsTo l (k + 1)) := Lib.hid (HT.out.next HX.out ht (fun z h _ => absurd h h0))
     clear hS
     go_wp2_with fail
     go_roundw
     case rel => exact ⟨k + 1, by go_num, hlt, HN, Lib.hid HB1.out.drew⟩
     case measure => simp [numI]; omega
   ·have hq : decide ((1073741824 : Int) < (x.t : Int)) = true := by simp; omega
    have HS : Hid (RtS wr w1 x wr.heap.size 0 x) := Lib.hid ⟨H1.out.one, lat0 H1.out.one⟩
    have HN : Hid (¬ TsR l) := Lib.hid (fun h => ht (h.le x (List.mem_of_getElem? HX.out)))
    go_wp2_with fail
    refine wp_region_held_drew (S := fun w' => RtS wr w' x wr.heap.size 0 x) (by kernel_rfl) ⟨HS.out.el, HS.out.pr⟩ (fun hS => ?_)
    refine held_tk 0 12 (.pointer (some ⟨wr.heap.size,1,none⟩)) rfl rfl (by kernel_rfl) (fun _ _ _ h=>h) (fun _ _=>(by kernel_rfl)) hS ?_;simp only [Act.put,ap1,ap2,ap3]
    refine held_tk 1 13 (.int .u32 (x.t : Int)) rfl rfl (by kernel_rfl) (fun _ _ _ h=>h) (fun _ h=>exec_cell rfl rfl (load_cell (by kernel_rfl) (lat1 h.el))) hS ?_;simp only [Act.put,ap1,ap2,ap3]
    refine held_tk 2 14 (.bool true) rfl rfl (by kernel_rfl) (fun _ _ _ h=>h) (fun _ _=>exec_gtrI rfl rfl rfl hq) hS ?_;simp only [Act.put,ap1,ap2,ap3]
    refine held_tk 3 15 (.bool true) rfl rfl (by kernel_rfl) (fun _ _ _ h=>h) (fun _ _=>rfl) hS ?_;simp only [Act.put,ap1,ap2,ap3]
    refine held_sk 4 16 rfl rfl (by kernel_rfl) (fun _ _ _ h=>h) hS ?_;simp only [Act.put,ap1,ap2,ap3]
    refine held_sk 5 17 rfl rfl (by kernel_rfl) (fun _ _ _ h=>h) hS ?_;simp only [Act.put,ap1,ap2,ap3]
    refine held_sk 6 18 rfl rfl (by kernel_rfl) (fun _ _ _ h=>h) hS ?_;simp only [Act.put,ap1,ap2,ap3]
    refine held_sk 7 19 rfl rfl (by kernel_rfl) (fun _ _ _ h=>h) hS ?_;simp only [Act.put,ap1,ap2,ap3]
    refine held_sk 8 20 rfl rfl (by kernel_rfl) (fun _ _ _ h=>h) hS ?_;simp only [Act.put,ap1,ap2,ap3]
    refine held_sk 9 21 rfl rfl (by kernel_rfl) (fun _ _ _ h=>h) hS ?_;simp only [Act.put,ap1,ap2,ap3]
    refine held_sk 10 22 rfl rfl (by kernel_rfl) (fun _ _ _ h=>h) hS ?_;simp only [Act.put,ap1,ap2,ap3]
    refine held_sk 11 23 rfl rfl (by kernel_rfl) (fun _ _ _ h=>h) hS ?_;simp only [Act.put,ap1,ap2,ap3]
    refine held_sk 12 24 rfl rfl (by kernel_rfl) (fun _ _ _ h=>h) hS ?_;simp only [Act.put,ap1,ap2,ap3]
    refine held_sk 13 25 rfl rfl (by kernel_rfl) (fun _ _ _ h=>h) hS ?_;simp only [Act.put,ap1,ap2,ap3]
    refine held_sk 14 26 rfl rfl (by kernel_rfl) (fun _ _ _ h=>h) hS ?_;simp only [Act.put,ap1,ap2,ap3]
    refine held_sk 15 27 rfl rfl (by kernel_rfl) (fun _ _ _ h=>h) hS ?_;simp only [Act.put,ap1,ap2,ap3]
    refine held_sk 16 28 rfl rfl (by kernel_rfl) (fun _ _ _ h=>h) hS ?_;simp only [Act.put,ap1,ap2,ap3]
    refine held_tk 17 29 (.bool true) rfl rfl (by kernel_rfl) (fun _ _ _ h=>h) (fun _ _=>rfl) hS ?_;simp only [Act.put,ap1,ap2,ap3]
    refine wpAnyH_done (by kernel_rfl) ?_ _
    clear hS
    go_wp2_with fail
    go_ret
    exact ⟨false, rfl, by simp [HN.out], HB1.out.drew⟩
  ·obtain rfl : k = n := by omega
   have HN : Hid (TsR l) := Lib.hid (HT.out.all (by rw [HLEN.out]; exact Nat.le_refl _))
   go_wp2_with fail
   go_ret
   exact ⟨true, rfl, by simp [HN.out], HB.out⟩
end Go.Proofs.YtnekpgmgnepdoaaGreat
