import Derived.Test.YtnekpgmgnepdoaaGreatZbe
import Derived.Test.YtnekpgmgnepdoaaGreatZbh
import Derived.Test.YtnekpgmgnepdoaaGreatZbi
section
namespace Go.Proofs.YtnekpgmgnepdoaaGreat
open Go.RowKit Go.Maps
theorem viewV_size (c : Nat) (v : Value) (o : Bool) (t : Nat) : (viewV c v o t).size = 4 := rfl
end Go.Proofs.YtnekpgmgnepdoaaGreat
end
section
namespace Go.Proofs.YtnekpgmgnepdoaaGreat
open Go.RowKit
theorem OzW.drew {w W : World} {p : Nat} {U : Array Value} (h : OzW w W p U) : OzW w W.drew p U := ⟨h.s1, h.old.drew⟩
end Go.Proofs.YtnekpgmgnepdoaaGreat
end
section
namespace Go.Proofs.YtnekpgmgnepdoaaGreat
open Go.RowKit
theorem less_n {x y : En} (h : ¬ x.n = y.n) : En.lessB x y = decide (x.n < y.n) := by
 unfold En.lessB; exact decide_eq_decide.2 (by omega)
theorem less_r {x y : En} (h : x.n = y.n) (hr : ¬ x.r = y.r) : En.lessB x y = decide (x.r < y.r) := by
 unfold En.lessB; exact decide_eq_decide.2 (by omega)
theorem less_s {x y : En} (h : x.n = y.n) (hr : x.r = y.r) : En.lessB x y = decide (x.s < y.s) := by
 unfold En.lessB; exact decide_eq_decide.2 (by omega)
set_option maxRecDepth 100000 in
set_option maxHeartbeats 1000000 in
theorem rless_any (x y : En) (w : World) : Calls Tryz.prog 115 #[.agg x.arr, .agg y.arr] w (Says (.bool (En.lessB x y)) w) := by
 have hb1 := fun (o : En) w => box93 o w
 have HS := Lib.hid (gw_new w 93 x.arr y.arr)
 go_enter Tryz.func115, Tryz.ntmps115
 go_upto_region 1 with fail
 clear hb1
 generalize (w.alloc (.cells x.arr 93)).alloc (.cells y.arr 93) = W at HS
 have c0 := ent6 HS.out.one
 have c4 := ent4 HS.out.one
 have c5 := ent5 HS.out.one
 have d0 := ent6 HS.out.two
 have d4 := ent4 HS.out.two
 have d5 := ent5 HS.out.two
 by_cases hc : x.n = y.n
 ·have q1 := eqB' hc
  by_cases hr : x.r = y.r
  ·have q2 := eqB' hr
   have HE := Lib.hid (less_s hc hr)
   clear hc hr
   go_wp2_with fail
   go_ret
   exact ⟨ret_bool HE.out.symm, HS.out.old.below⟩
  ·have q2 := neB hr
   have HE := Lib.hid (less_r hc hr)
   clear hc hr
   go_wp2_with fail
   go_ret
   exact ⟨ret_bool HE.out.symm, HS.out.old.below⟩
 ·have q1 := neB hc
  have HE := Lib.hid (less_n hc)
  clear hc
  go_wp2_with fail
  go_ret
  exact ⟨ret_bool HE.out.symm, HS.out.old.below⟩
structure Qs (L : List En) (c i k : Nat) (A : Ac) (z : Int) (any : Bool) : Prop where
 get : (camTo c L k i).getD Ac.zero = A
 is : (camTo c L k i).isSome = any
 bst : (z = -1 ∧ A.o = En.zero) ∨ ∃ b : Nat, z = (b : Int) ∧ b < k ∧ L[b]? = some A.o
theorem Qs.start (L : List En) (c i : Nat) : Qs L c i 0 Ac.zero (-1) false := ⟨rfl, rfl, .inl ⟨rfl, rfl⟩⟩
section
variable {L : List En} {c i k : Nat} {A : Ac} {z : Int} {any : Bool} {x : En}
theorem Qs.skip (h : Qs L c i k A z any) (hx : L[k]? = some x) (hn : ¬ (x.c = c ∧ x.k ≠ 4 ∧ x.i = i)) : Qs L c i (k + 1) A z any := by
 have e : camTo c L (k + 1) i = camTo c L k i := by rw [camTo_succ hx]; unfold camStep; rw [if_neg hn]
 refine ⟨by rw [e]; exact h.get, by rw [e]; exact h.is, ?_⟩
 rcases h.bst with h | ⟨b, h1, h2, h3⟩
 ·exact .inl h
 ·exact .inr ⟨b, h1, by omega, h3⟩
theorem Qs.step (h : Qs L c i k A z any) (hx : L[k]? = some x) (hy : x.c = c ∧ x.k ≠ 4 ∧ x.i = i) {z' : Int} (hz : (z' = z ∧ (A.with x).o = A.o) ∨ (z' = (k : Int) ∧ (A.with x).o = x)) : Qs L c i (k + 1) (A.with x) z' true := by
 have e : camTo c L (k + 1) i = some (A.with x) := by rw [camTo_succ hx]; unfold camStep; rw [if_pos hy, h.get]
 refine ⟨by rw [e]; rfl, by rw [e]; rfl, ?_⟩
 rcases hz with ⟨rfl, ho⟩ | ⟨rfl, ho⟩
 ·rw [ho]
  rcases h.bst with h | ⟨b, h1, h2, h3⟩
  ·exact .inl h
  ·exact .inr ⟨b, h1, by omega, h3⟩
 ·exact .inr ⟨k, rfl, by omega, by rw [ho]; exact hx⟩
end
theorem with_add {A : Ac} {x : En} (h : x.k = 1) : (A.with x).n = (A.n + x.q) % 4294967296 ∧ (A.with x).o = A.o := by
 unfold Ac.with; rw [if_pos h]; exact ⟨rfl, rfl⟩
theorem with_set {A : Ac} {x : En} (h : ¬ x.k = 1) (hl : En.lessB A.o x = true) : (A.with x).n = A.n ∧ (A.with x).o = x := by
 unfold Ac.with; rw [if_neg h, if_pos hl]; exact ⟨rfl, rfl⟩
theorem with_not {A : Ac} {x : En} (h : ¬ x.k = 1) (hl : En.lessB A.o x = false) : A.with x = A := by
 unfold Ac.with; rw [if_neg h, hl]; rfl
theorem less_zero {x : En} (h : 1 ≤ x.n) : En.lessB En.zero x = true := by
 unfold En.lessB; exact decide_eq_true (.inl (by show 0 < x.n; omega))
theorem wrap64_u16 {i : Nat} (h : i < 65536) : wrap64 (i : Int) = (i : Int) := by unfold wrap64; omega
def QtP (L : List En) (c i : Nat) (w : World) (e : Ending) (w' : World) : Prop :=
 e = .returned (.tuple #[.int .u32 (cqtyAt c L i : Int), .bool (camTo c L L.length i).isSome]) ∧ Below w.heap.size w w'
structure Qx (w W : World) (p px : Nat) (U : Array Value) (x : En) (g o : Nat) (y : En) : Prop where
 st : Blk W p 28 U
 bx : Blk W px 93 x.arr
 el : W.rangeAt g o y.cs
 old : Below w.heap.size w W
theorem Qx.below {w W W' : World} {p px : Nat} {U : Array Value} {x : En} {g o : Nat} {y : En} (h : Qx w W p px U x g o y) (hb : Below W.heap.size W W') : Qx w W' p px U x g o y :=
 ⟨h.st.below hb, h.bx.below hb, fun j u hu => below_at hb (h.el j u hu), h.old.trans (hb.mono h.old.size)⟩
theorem Qx.drew {w W : World} {p px : Nat} {U : Array Value} {x : En} {g o : Nat} {y : En} (h : Qx w W p px U x g o y) : Qx w W.drew p px U x g o y := ⟨h.st, h.bx, fun j u hu => h.el j u hu, h.old.drew⟩
theorem EL.sure {w : World} {g off n : Nat} {l : List En} (h : EL w (some ⟨g, off, none⟩) n l) {i : Nat} {x : En} (hx : l[i]? = some x) : i < n ∧ w.rangeAt g (off + i * 7) x.cs := by
 have hi : i < n := by rw [← h.len']; exact (List.getElem?_eq_some_iff.1 hx).1
 obtain ⟨b, o, y, e, hy, hr⟩ := EL.at h hi
 cases e
 rw [hx] at hy
 cases hy
 exact ⟨hi, hr⟩
set_option maxRecDepth 100000 in
set_option maxHeartbeats 8000000 in
theorem rquant_any {s : Sta} {a b : Option Addr} {n c0 m d : Nat} {w : World} (hl : SL w s a n b m) (hn : n < 500000) (h1 : ∀ e ∈ s.es, 1 ≤ e.n) (c i : Nat) : Calls Tryz.prog 67 #[.agg (sv s.v a n c0 b m d), .int .u16 (c : Int), .int .i64 (i : Int)] w (QtP s.es c i w) := by
 have HL := Lib.hid hl
 have HLEN := Lib.hid hl.es.len'
 have H1 := Lib.hid h1
 obtain ⟨ze, hze⟩ : ∃ z, En.zero = z := ⟨_, rfl⟩
 have HZN := Lib.hid hze
 have hb1 := fun (v : V) x y w => box28 v x y w
 have HP0 := Lib.hid (bo_new w 28 (sv s.v a n c0 b m d))
 clear hl h1 hze
 go_enter Tryz.func67, Tryz.ntmps67
 go_upto_region 1 with fail
 clear hb1
 generalize w.alloc (.cells (sv s.v a n c0 b m d) 28) = w0 at HP0
 obtain ⟨p, hp⟩ : ∃ p, w.heap.size = p := ⟨_, rfl⟩
 have HPP := Lib.hid hp
 have HB0 := Lib.hid HP0.out.old
 have HK0 : Hid (Blk w0 p 28 (sv s.v a n c0 b m d)) := Lib.hid (hp ▸ HP0.out.one)
 clear HP0
 rw [hp]
 clear hp
 go_wp2_with fail
 go_loopw [8, 9, 10, 11] (fun sm bv av iv wr => ∃ (k : Nat) (A : Ac) (z : Int) (any : Bool), k ≤ n ∧ sm = .int .u32 (A.n : Int) ∧ bv = .int .i64 z ∧ av = .bool any ∧ iv = .int .i64 (k : Int) ∧ Hid (Qs s.es c i k A z any) ∧ Hid (Blk wr p 28 (sv s.v a n c0 b m d)) ∧ Hid (Below w.heap.size w wr)) (fun _ _ _ iv _ => n - (intOf iv).toNat)
 case atStart => exact ⟨0, Ac.zero, -1, false, Nat.zero_le _, rfl, rfl, rfl, rfl, Lib.hid (Qs.start _ _ _), HK0, HB0⟩
 case round =>
  obtain ⟨k, A, z, any, hk, rfl, rfl, rfl, rfl, HQ, HP, HB⟩ := hrel
  clear HK0 HB0
  have c16 := stc16 HP.out
  by_cases hlt : k < n
  ·obtain ⟨g, off, x, rfl, hx, hr⟩ := EL.at (HL.out.es.below HB.out) hlt
   have HX := Lib.hid hx
   have HR := Lib.hid hr
   have HA : Hid (∀ j y, s.es[j]? = some y → j < n ∧ wr.rangeAt g (off + j * 7) y.cs) := Lib.hid (fun j y hy => EL.sure (HL.out.es.below HB.out) hy)
   have HN : Hid (1 ≤ x.n) := Lib.hid (H1.out x (List.mem_of_getElem? hx))
   clear hx hr
   go_wp2_with (first | (refine wpList_run rfl (exec_idx93 (i := k) rfl rfl rfl rfl hlt) ?_) | (refine wpList_run rfl (exec_ld93 (p := x) rfl rfl HR.out) ?_) | (refine wpList_run rfl (exec_alloc93z HZN.out rfl) ?_) | (refine wpList_stop93 rfl ?_))
   refine ⟨?_⟩
   refine wpList_void rfl rfl (exec_store93 (p := ze) (u := x) rfl rfl rfl (Blk.new wr 93 ze.arr)) ?_
   have hbo := bo_laid wr 93 ze.arr x.arr
   have HP1 := Lib.hid (HP.out.below hbo.old)
   have HB1 := Lib.hid (HB.out.trans (hbo.old.mono HB.out.size))
   have HX1 := Lib.hid hbo.one
   have HA1 : Hid (∀ j y, s.es[j]? = some y → j < n ∧ ((wr.alloc (.cells ze.arr 93)).setRow wr.heap.size x.arr).rangeAt g (off + j * 7) y.cs) := Lib.hid (fun j y hy => ⟨(HA.out j y hy).1, fun q u hu => below_at hbo.old ((HA.out j y hy).2 q u hu)⟩)
   clear hbo HP HB HA HR c16
   generalize (wr.alloc (.cells ze.arr 93)).setRow wr.heap.size x.arr = w1 at HP1 HB1 HX1 HA1 ⊢
   generalize wr.heap.size = px at HX1 ⊢
   have c16 := stc16 HP1.out
   have e0 := ent0 HX1.out
   have e1 := ent1 HX1.out
   have e2 := ent2 HX1.out
   have e3 := ent3 HX1.out
   have hwi : wrap64 (x.i : Int) = (x.i : Int) := wrap64_u16 x.hi
   by_cases hc : x.c = c
   case neg =>
    have q1 := neB hc
    have HQ2 := Lib.hid (HQ.out.skip HX.out (fun h => hc h.1))
    clear hc
    go_wp2_with fail
    go_roundw
    case rel => exact ⟨k + 1, A, z, any, by omega, rfl, rfl, rfl, by go_num, HQ2, HP1, HB1⟩
    case measure => simp [intOf]; omega
   have q1 := eqB' hc
   by_cases hci : x.i = i
   case neg =>
    have q2 := neB hci
    have HQ2 := Lib.hid (HQ.out.skip HX.out (fun h => hci h.2.2))
    clear hc hci
    go_wp2_with fail
    go_roundw
    case rel => exact ⟨k + 1, A, z, any, by omega, rfl, rfl, rfl, by go_num, HQ2, HP1, HB1⟩
    case measure => simp [intOf]; omega
   have q2 := eqB' hci
   by_cases h4 : x.k = 4
   case pos =>
    have HQ2 := Lib.hid (HQ.out.skip HX.out (fun h => h.2.1 h4))
    rw [h4] at e3
    clear hc hci h4
    go_wp2_with fail
    go_roundw
    case rel => exact ⟨k + 1, A, z, any, by omega, rfl, rfl, rfl, by go_num, HQ2, HP1, HB1⟩
    case measure => simp [intOf]; omega
   have q4 : ((x.k : Int) == 4) = false := by simp; omega
   have HY : Hid (x.c = c ∧ x.k ≠ 4 ∧ x.i = i) := Lib.hid ⟨hc, h4, hci⟩
   clear hc hci h4
   by_cases h5 : x.k = 1
   case pos =>
    have q5 : ((x.k : Int) == 1) = true := by simp; omega
    have HW := Lib.hid (with_add (A := A) h5)
    have HQ2 : Hid (Qs s.es c i (k + 1) (A.with x) z true) := Lib.hid (HQ.out.step HX.out HY.out (.inl ⟨rfl, HW.out.2⟩))
    have hEN : ((A.n : Int) + (x.q : Int) % 4294967296) % 4294967296 = ((A.with x).n : Int) := by rw [HW.out.1]; have := x.hq; omega
    have HEN := Lib.hid hEN
    clear h5 hEN
    go_wp2_with fail
    rw [HEN.out]
    go_roundw
    case rel => exact ⟨k + 1, A.with x, z, true, by omega, rfl, rfl, rfl, by go_num, HQ2, HP1, HB1⟩
    case measure => simp [intOf]; omega
   have q5 : ((x.k : Int) == 1) = false := by simp; omega
   have HK5 := Lib.hid h5
   clear h5
   rcases HQ.out.bst with ⟨hz, hzo⟩ | ⟨bi, hz, hbk, hbo⟩
   ·subst hz
    have HW := Lib.hid (with_set (A := A) HK5.out (by rw [hzo]; exact less_zero HN.out))
    have HQ2 : Hid (Qs s.es c i (k + 1) (A.with x) (k : Int) true) := Lib.hid (HQ.out.step HX.out HY.out (.inr ⟨rfl, HW.out.2⟩))
    have hAN : (A.n : Int) = ((A.with x).n : Int) := by rw [HW.out.1]
    have HAN := Lib.hid hAN
    obtain ⟨bi, hbi⟩ : ∃ j, k = j := ⟨_, rfl⟩
    obtain ⟨y, hy⟩ : ∃ y, x = y := ⟨_, rfl⟩
    have HQX : Hid (Qx w w1 p px (sv s.v (some ⟨g, off, none⟩) n c0 b m d) x g (off + bi * 7) y) := Lib.hid ⟨HP1.out, HX1.out, by rw [← hbi, ← hy]; exact (HA1.out k x HX.out).2, HB1.out⟩
    clear hzo hAN hbi hy
    go_wp2_with fail
    refine wp_region_held_drew (S := fun w' => Qx w w' p px (sv s.v (some ⟨g, off, none⟩) n c0 b m d) x g (off + bi * 7) y) (by kernel_rfl) HQX.out.drew (fun hS => ?_)
    refine held_tk 0 49 (.int .i64 (-1)) rfl rfl (by kernel_rfl) (fun _ _ _ h => h) (fun _ _ => rfl) hS ?_
    simp only [Act.put, ap1, ap2, ap3]
    refine held_tk 1 50 (.bool true) rfl rfl (by kernel_rfl) (fun _ _ _ h => h) (fun _ _ => exec_lssI rfl rfl rfl (by decide)) hS ?_
    simp only [Act.put, ap1, ap2, ap3]
    refine held_tk 2 51 (.bool true) rfl rfl (by kernel_rfl) (fun _ _ _ h => h) (fun _ _ => rfl) hS ?_
    simp only [Act.put, ap1, ap2, ap3]
    refine held_sk 3 52 rfl rfl (by kernel_rfl) (fun _ _ _ h => h) hS ?_
    simp only [Act.put, ap1, ap2, ap3]
    refine held_sk 4 53 rfl rfl (by kernel_rfl) (fun _ _ _ h => h) hS ?_
    simp only [Act.put, ap1, ap2, ap3]
    refine held_sk 5 54 rfl rfl (by kernel_rfl) (fun _ _ _ h => h) hS ?_
    simp only [Act.put, ap1, ap2, ap3]
    refine held_sk 6 55 rfl rfl (by kernel_rfl) (fun _ _ _ h => h) hS ?_
    simp only [Act.put, ap1, ap2, ap3]
    refine held_sk 7 56 rfl rfl (by kernel_rfl) (fun _ _ _ h => h) hS ?_
    simp only [Act.put, ap1, ap2, ap3]
    refine held_sk 8 57 rfl rfl (by kernel_rfl) (fun _ _ _ h => h) hS ?_
    simp only [Act.put, ap1, ap2, ap3]
    refine held_sk 9 58 rfl rfl (by kernel_rfl) (fun _ _ _ h => h) hS ?_
    simp only [Act.put, ap1, ap2, ap3]
    refine held_tk 10 59 (.bool true) rfl rfl (by kernel_rfl) (fun _ _ _ h => h) (fun _ _ => rfl) hS ?_
    simp only [Act.put, ap1, ap2, ap3]
    have HS2 := Lib.hid hS
    clear hS
    refine wpAnyH_done (by kernel_rfl) ?_ _
    go_wp2_with fail
    rw [HAN.out]
    go_roundw
    case rel => exact ⟨k + 1, A.with x, (k : Int), true, by omega, rfl, rfl, rfl, by go_num, HQ2, Lib.hid HS2.out.st, Lib.hid HS2.out.old⟩
    case measure => simp [intOf]; omega
   ·subst hz
    obtain ⟨hbn, hby⟩ := HA1.out bi A.o hbo
    obtain ⟨y, hy⟩ : ∃ y, A.o = y := ⟨_, rfl⟩
    have HYO := Lib.hid hy
    have HQX : Hid (Qx w w1 p px (sv s.v (some ⟨g, off, none⟩) n c0 b m d) x g (off + bi * 7) y) := Lib.hid ⟨HP1.out, HX1.out, by rw [← hy]; exact hby, HB1.out⟩
    clear hby hy hbo
    go_wp2_with fail
    refine wp_region_held_drew (S := fun w' => Qx w w' p px (sv s.v (some ⟨g, off, none⟩) n c0 b m d) x g (off + bi * 7) y) (by kernel_rfl) HQX.out.drew (fun hS => ?_)
    refine held_tk 0 49 (.int .i64 (bi : Int)) rfl rfl (by kernel_rfl) (fun _ _ _ h => h) (fun _ _ => rfl) hS ?_
    simp only [Act.put, ap1, ap2, ap3]
    refine held_tk 1 50 (.bool false) rfl rfl (by kernel_rfl) (fun _ _ _ h => h) (fun _ _ => exec_lssI rfl rfl rfl (by simp)) hS ?_
    simp only [Act.put, ap1, ap2, ap3]
    refine held_tk 2 51 (.bool false) rfl rfl (by kernel_rfl) (fun _ _ _ h => h) (fun _ _ => rfl) hS ?_
    simp only [Act.put, ap1, ap2, ap3]
    refine held_tk 3 52 (.pointer (some ⟨p, 16, none⟩)) rfl rfl (by kernel_rfl) (fun _ _ _ h => h) (fun _ _ => (by kernel_rfl)) hS ?_
    simp only [Act.put, ap1, ap2, ap3]
    refine held_tk 4 53 (.slice (some ⟨g, off, none⟩) n c0) rfl rfl (by kernel_rfl) (fun _ _ _ h => h) (fun _ h => exec_cell rfl rfl (load_cell (by kernel_rfl) (stc16 h.st))) hS ?_
    simp only [Act.put, ap1, ap2, ap3]
    refine held_tk 5 54 (.int .i64 (bi : Int)) rfl rfl (by kernel_rfl) (fun _ _ _ h => h) (fun _ _ => rfl) hS ?_
    simp only [Act.put, ap1, ap2, ap3]
    refine held_tk 6 55 (.pointer (some ⟨g, off + bi * 7, none⟩)) rfl rfl (by kernel_rfl) (fun _ _ _ h => h) (fun _ _ => exec_idx93 (i := bi) rfl rfl rfl rfl hbn) hS ?_
    simp only [Act.put, ap1, ap2, ap3]
    refine held_tk 7 56 (.agg y.arr) rfl rfl (by kernel_rfl) (fun _ _ _ h => h) (fun _ h => exec_ld93 (p := y) rfl rfl h.el) hS ?_
    simp only [Act.put, ap1, ap2, ap3]
    refine held_tk 8 57 (.agg x.arr) rfl rfl (by kernel_rfl) (fun _ _ _ h => h) (fun _ h => exec_load93 (p := x) rfl rfl h.bx) hS ?_
    simp only [Act.put, ap1, ap2, ap3]
    refine held_callP 9 58 115 #[.agg y.arr, .agg x.arr] rfl (by kernel_rfl) rfl (by kernel_rfl) (by kernel_rfl) (rless_any y x _) (fun e w5 hP => ?_)
    obtain ⟨rfl, hb⟩ := hP
    refine ⟨_, rfl, hS.below hb, fun hS => ?_⟩
    simp only [Act.put, ap1, ap2, ap3]
    cases hlb : En.lessB y x
    ·have HW := Lib.hid (with_not (A := A) HK5.out (by rw [HYO.out]; exact hlb))
     have HQ2 : Hid (Qs s.es c i (k + 1) A (bi : Int) true) := Lib.hid (by have h := HQ.out.step HX.out HY.out (z' := (bi : Int)) (.inl ⟨rfl, by rw [HW.out]⟩); rwa [HW.out] at h)
     clear hlb
     refine held_tk 10 59 (.bool false) rfl rfl (by kernel_rfl) (fun _ _ _ h => h) (fun _ _ => rfl) hS ?_
     simp only [Act.put, ap1, ap2, ap3]
     have HS2 := Lib.hid hS
     clear hS
     refine wpAnyH_done (by kernel_rfl) ?_ _
     go_wp2_with fail
     go_roundw
     case rel => exact ⟨k + 1, A, (bi : Int), true, by omega, rfl, rfl, rfl, by go_num, HQ2, Lib.hid HS2.out.st, Lib.hid HS2.out.old⟩
     case measure => simp [intOf]; omega
    ·have HW := Lib.hid (with_set (A := A) HK5.out (by rw [HYO.out]; exact hlb))
     have HQ2 : Hid (Qs s.es c i (k + 1) (A.with x) (k : Int) true) := Lib.hid (HQ.out.step HX.out HY.out (.inr ⟨rfl, HW.out.2⟩))
     have hAN : (A.n : Int) = ((A.with x).n : Int) := by rw [HW.out.1]
     have HAN := Lib.hid hAN
     clear hlb hAN
     refine held_tk 10 59 (.bool true) rfl rfl (by kernel_rfl) (fun _ _ _ h => h) (fun _ _ => rfl) hS ?_
     simp only [Act.put, ap1, ap2, ap3]
     have HS2 := Lib.hid hS
     clear hS
     refine wpAnyH_done (by kernel_rfl) ?_ _
     go_wp2_with fail
     rw [HAN.out]
     go_roundw
     case rel => exact ⟨k + 1, A.with x, (k : Int), true, by omega, rfl, rfl, rfl, by go_num, HQ2, Lib.hid HS2.out.st, Lib.hid HS2.out.old⟩
     case measure => simp [intOf]; omega
  ·have HKN : Hid (k = s.es.length) := Lib.hid (by have := HLEN.out; omega)
   rcases HQ.out.bst with ⟨hz, hzo⟩ | ⟨bi, hz, hbk, hbo⟩
   ·subst hz
    have HE : Hid (cqtyAt c s.es i = A.n) := Lib.hid (by
     have hg := HQ.out.get
     rw [HKN.out] at hg
     unfold cqtyAt
     rw [hg]
     unfold Ac.qty
     rw [hzo]
     have := A.hn
     show (A.n + 0) % 4294967296 = A.n
     omega)
    have HE2 : Hid ((camTo c s.es s.es.length i).isSome = any) := Lib.hid (by have := HQ.out.is; rwa [HKN.out] at this)
    clear hzo
    have q9 : decide ((0 : Int) ≤ -1) = false := by decide
    go_wp2_with fail
    go_ret2
    exact ⟨by rw [HE.out, HE2.out]; rfl, HB.out⟩
   ·subst hz
    obtain ⟨g, off, y0, rfl, hy0, hr0⟩ := EL.at (HL.out.es.below HB.out) (show bi < n by have := (List.getElem?_eq_some_iff.1 hbo).1; have := HLEN.out; omega)
    have hbn : bi < n := by have := (List.getElem?_eq_some_iff.1 hbo).1; have := HLEN.out; omega
    obtain rfl : A.o = y0 := Option.some.inj (hbo.symm.trans hy0)
    have c2 : wr.cell? ⟨g, off + bi * 7 + 2, none⟩ = some (.int .u16 (A.o.q : Int)) := hr0 2 _ rfl
    have HE : Hid (((A.n : Int) + (A.o.q : Int) % 4294967296) % 4294967296 = (cqtyAt c s.es i : Int)) := Lib.hid (by
     have hg := HQ.out.get
     rw [HKN.out] at hg
     unfold cqtyAt
     rw [hg]
     unfold Ac.qty
     have := A.o.hq
     omega)
    have HE2 : Hid ((camTo c s.es s.es.length i).isSome = any) := Lib.hid (by have := HQ.out.is; rwa [HKN.out] at this)
    clear hy0 hr0 hbo
    have q9 : decide ((0 : Int) ≤ (bi : Int)) = true := by simp
    go_wp2_with fail
    rw [HE.out]
    go_ret2
    exact ⟨by rw [HE2.out]; rfl, HB.out⟩
end Go.Proofs.YtnekpgmgnepdoaaGreat
end
section
namespace Go.Proofs.YtnekpgmgnepdoaaGreat
open Go.RowKit
theorem cam_some {c : Nat} {L : List En} {i : Nat} : ∀ {k : Nat}, k ≤ L.length → (camTo c L k i).isSome = true → ∃ j e, j < k ∧ L[j]? = some e ∧ e.i = i
 | 0, _, h => by simp [camTo] at h
 | k + 1, hk, h => by
  have hx : L[k]? = some L[k] := List.getElem?_eq_getElem (by omega)
  rw [camTo_succ hx] at h
  unfold camStep at h
  split at h
  ·rename_i hc
   exact ⟨k, _, by omega, hx, hc.2.2⟩
  ·obtain ⟨j, e, h1, h2, h3⟩ := cam_some (by omega) h
   exact ⟨j, e, by omega, h2, h3⟩
def hasI (c : Nat) (L : List En) (i : Nat) : Bool := (camTo c L L.length i).isSome
structure ItsTo (c : Nat) (L : List En) (z : Int) (its : List Nat) : Prop where
 up : its.Pairwise (· < ·)
 mem : ∀ i, i ∈ its ↔ (i : Int) ≤ z ∧ hasI c L i = true
 lo : -1 ≤ z
 hi : z < 65536
theorem ItsTo.start (c : Nat) (L : List En) : ItsTo c L (-1) [] := ⟨List.Pairwise.nil, fun i => by simp; omega, by omega, by omega⟩
structure NextTo (c : Nat) (L : List En) (z : Int) (k : Nat) (x : Int) : Prop where
 all : ∀ j e, j < k → L[j]? = some e → hasI c L e.i = true → z < (e.i : Int) → 0 ≤ x ∧ x ≤ (e.i : Int)
 is : x = -1 ∨ ∃ i : Nat, x = (i : Int) ∧ i < 65536 ∧ z < x ∧ hasI c L i = true
theorem NextTo.start (c : Nat) (L : List En) (z : Int) : NextTo c L z 0 (-1) := ⟨fun j e h => by omega, .inl rfl⟩
section
variable {c : Nat} {L : List En} {z x : Int} {k : Nat} {e : En}
theorem NextTo.skip (h : NextTo c L z k x) (he : L[k]? = some e) (hn : hasI c L e.i = false ∨ ¬ z < (e.i : Int) ∨ (0 ≤ x ∧ x ≤ (e.i : Int))) : NextTo c L z (k + 1) x := by
 refine ⟨fun j e' hj he' h1 h2 => ?_, h.is⟩
 by_cases hjk : j = k
 ·subst hjk
  rw [he] at he'
  cases he'
  rcases hn with hn | hn | hn
  ·rw [hn] at h1; cases h1
  ·exact absurd h2 hn
  ·exact hn
 ·exact h.all j e' (by omega) he' h1 h2
theorem NextTo.take (h : NextTo c L z k x) (he : L[k]? = some e) (h1 : hasI c L e.i = true) (h2 : z < (e.i : Int)) (h3 : x < 0 ∨ (e.i : Int) < x) : NextTo c L z (k + 1) (e.i : Int) := by
 refine ⟨fun j e' hj he' h4 h5 => ?_, .inr ⟨e.i, rfl, e.hi, h2, h1⟩⟩
 by_cases hjk : j = k
 ·subst hjk
  rw [he] at he'
  cases he'
  omega
 ·have := h.all j e' (by omega) he' h4 h5
  omega
theorem hasI_lt {i : Nat} (h : hasI c L i = true) : ∃ j e, j < L.length ∧ L[j]? = some e ∧ e.i = i := cam_some (Nat.le_refl _) h
theorem ItsTo.done {its : List Nat} (h : ItsTo c L z its) (hx : NextTo c L z L.length (-1)) : CItems c L its := by
 refine ⟨h.up, fun i => ?_⟩
 rw [h.mem]
 constructor
 ·rintro ⟨h1, h2⟩
  exact ⟨by have := h.hi; omega, h2⟩
 ·rintro ⟨_, h2⟩
  refine ⟨?_, h2⟩
  by_cases hz : (i : Int) ≤ z
  ·exact hz
  ·obtain ⟨j, e, hj, he, hi⟩ := hasI_lt (c := c) (L := L) h2
   have := hx.all j e hj he (by rw [hi]; exact h2) (by rw [hi]; omega)
   omega
theorem ItsTo.next {its : List Nat} {i : Nat} (h : ItsTo c L z its) (hx : NextTo c L z L.length (i : Int)) : ItsTo c L (i : Int) (its ++ [i]) ∧ z < (i : Int) := by
 rcases hx.is with h0 | ⟨i', h0, hi, hz, hh⟩
 ·omega
 have e : i = i' := by omega
 subst e
 refine ⟨⟨?_, fun j => ?_, by omega, by omega⟩, hz⟩
 ·refine List.pairwise_append.2 ⟨h.up, List.pairwise_singleton _ _, fun a ha b hb => ?_⟩
  obtain rfl : b = i := by simpa using hb
  have := ((h.mem a).1 ha).1
  omega
 ·rw [List.mem_append, h.mem]
  constructor
  ·rintro (⟨h1, h2⟩ | h1)
   ·exact ⟨by omega, h2⟩
   ·obtain rfl : j = i := by simpa using h1
    exact ⟨by omega, hh⟩
  ·rintro ⟨h1, h2⟩
   by_cases hzj : (j : Int) ≤ z
   ·exact .inl ⟨hzj, h2⟩
   ·refine .inr ?_
    obtain ⟨q, e, hq, he, hi2⟩ := hasI_lt (c := c) (L := L) h2
    have := hx.all q e hq he (by rw [hi2]; exact h2) (by rw [hi2]; omega)
    have : j = i := by omega
    simp [this]
end
def RCartsP (s : Sta) (w : World) (e : Ending) (w' : World) : Prop :=
 ∃ (l : List Nat) (a : Option Addr) (cap : Nat), e = .returned (.slice a l.length cap) ∧ GL w' 1 a l.length (ones l) ∧ ((s.Right ∧ l = s.ts.map (·.c)) ∨ (¬ s.Right ∧ l = [])) ∧ Below w.heap.size w w'
set_option maxRecDepth 100000 in
set_option maxHeartbeats 8000000 in
theorem rcarts_any {s : Sta} {a b : Option Addr} {n c m d : Nat} {w : World} (hl : SL w s a n b m) (hn : n < 500000) (hm : m < 200000) : Calls Tryz.prog 28 #[.agg (sv s.v a n c b m d)] w (RCartsP s w) := by
 have HL := Lib.hid hl
 have HTN := Lib.hid hl.ts.len'
 have hb1 := fun (v : V) x y w => box28 v x y w
 have HP0 := Lib.hid (bo_new w 28 (sv s.v a n c b m d))
 clear hl
 go_enter Tryz.func28, Tryz.ntmps28
 go_upto_region 1 with fail
 clear hb1
 generalize w.alloc (.cells (sv s.v a n c b m d) 28) = w0 at HP0
 obtain ⟨p, hp⟩ : ∃ p, w.heap.size = p := ⟨_, rfl⟩
 have HPP := Lib.hid hp
 have HST : Hid (Blk w0 p 28 (sv s.v a n c b m d)) := Lib.hid (hp ▸ HP0.out.one)
 rw [hp]
 clear hp
 go_wp2_with (refine wpList_run rfl (exec_load28 rfl rfl HST.out) ?_)
 refine (rRight_any (HL.out.below HP0.out.old) hn (by omega)).mono ?_
 rintro e w1 ⟨q, rfl, hq, hb⟩
 have HS1 := Lib.hid (HST.out.below hb)
 have HB1 := Lib.hid (HP0.out.old.trans (hb.mono HP0.out.old.size))
 clear hb HST HP0
 cases q
 ·have HNR : Hid (¬ s.Right) := Lib.hid (fun h => by have := hq.2 h; cases this)
  clear hq
  go_wp2_with fail
  go_ret
  exact ⟨[], none, 0, rfl, GL.nil _ _ _, .inr ⟨HNR.out, rfl⟩, HB1.out⟩
 ·have HRT := Lib.hid (hq.1 rfl)
  clear hq
  obtain ⟨B, hB⟩ : ∃ B, w1.heap.size = B := ⟨_, rfl⟩
  have HO0 : Hid (OwnG w1 31 1 B none 0 0 (ones ((s.ts.take 0).map (·.c)))) := Lib.hid (by have := ownG_nil w1 31 1 B; simpa [ones] using this)
  have HWB : Hid (w.heap.size ≤ B ∧ p < B) := Lib.hid ⟨by rw [← hB]; exact HB1.out.size, by rw [← hB]; exact HS1.out.lt⟩
  have HZ0 : Hid (B ≤ w1.heap.size) := Lib.hid (by omega)
  clear hB
  go_wp2_with fail
  go_loopw [3, 4] (fun l i wr => ∃ (k c1 : Nat) (a1 : Option Addr), k ≤ m ∧ l = .slice a1 k c1 ∧ i = .int .i64 (k : Int) ∧ Hid (OwnG wr 31 1 B a1 k c1 (ones ((s.ts.take k).map (·.c)))) ∧ Hid (Blk wr p 28 (sv s.v a n c b m d)) ∧ Hid (Below w.heap.size w wr) ∧ Hid (B ≤ wr.heap.size)) (fun _ i _ => m - (intOf i).toNat)
  case atStart => exact ⟨0, 0, none, Nat.zero_le _, rfl, rfl, HO0, HS1, HB1, HZ0⟩
  case round =>
   obtain ⟨k, c1, a1, hk, rfl, rfl, HO, HP, HB, HZ⟩ := hrel
   clear HO0 HS1 HB1 HZ0
   have c17 := stc17 HP.out
   by_cases hlt : k < m
   ·obtain ⟨g, off, x, rfl, hx, hrw⟩ := LL.at (HL.out.ts.below HB.out) hlt
    have HX : Hid (ones ((s.ts.take (k + 1)).map (·.c)) = ones ((s.ts.take k).map (·.c)) ++ [[.int .u16 (x.c : Int)]]) := Lib.hid (by
     rw [List.take_add_one, hx, List.map_append, ones_app]; rfl)
    have c0 : wr.cell? ⟨g, off + k * 2, none⟩ = some (.int .u16 (x.c : Int)) := by have := hrw 0 _ rfl; simpa using this
    clear hx hrw
    go_wp2_with (first | (refine wpList_run rfl (exec_bsU (k := x.c) rfl rfl) ?_) | (at_builtin; refine wpList_appendG 59 31 1 2 info31u und59u rfl (by decide) (by decide) rfl rfl rfl rfl (HO.out.below (below_one wr _)) (Blk.new wr 31 #[.int .u16 (x.c : Int)]) rfl (by simp [Value.oneCell']) (by omega) (by have := HZ.out; simp; omega) ?_; intro a3 c3 w3 ho hk3 hl3; have HO3 := Lib.hid ho; have HK3 := Lib.hid hk3; clear ho hk3 hl3))
    clear c0 c17
    go_roundw
    case rel =>
     have hat : ∀ k, At a1 k → B ≤ k := fun k ⟨ad0, had, e⟩ => by rw [e]; exact (HO.out.lt ad0 had).1
     have h1 := HB.out.trans ((below_one wr (.cells #[.int .u16 (x.c : Int)] 31)).mono HB.out.size)
     exact ⟨k + 1, c3, a3, hlt, rfl, by go_num, Lib.hid (by rw [HX.out]; exact HO3.out), Lib.hid ((HP.out.below (below_one wr _)).kept HK3.out (fun h => by have := hat _ h; have := HWB.out.2; omega)), Lib.hid (h1.trans (HK3.out.below h1.size (fun j e => Nat.le_trans HWB.out.1 (hat j e)))), Lib.hid (by have h5 := HK3.out.size; rw [World.size_alloc] at h5; have := HZ.out; omega)⟩
    case measure => simp [intOf]; omega
   ·have hkm : m = k := by omega
    subst hkm
    have hall : s.ts.take m = s.ts := List.take_of_length_le (by rw [HTN.out]; exact Nat.le_refl _)
    rw [hall] at HO
    have hlen : (s.ts.map (·.c)).length = m := by rw [List.length_map]; exact HTN.out
    have HLEN := Lib.hid hlen
    clear hall hlen
    go_wp2_with fail
    go_ret
    exact ⟨s.ts.map (·.c), a1, c1, (by rw [HLEN.out]; first | done | rfl), by rw [HLEN.out]; exact HO.out.gl, .inl ⟨HRT.out, rfl⟩, HB.out⟩
structure Rv (w W : World) (s : Sta) (ps r v : Nat) (a : Option Addr) (n c0 : Nat) (b : Option Addr) (m0 d0 c : Nat) (o : Bool) (T : Nat) : Prop where
 st : Blk W ps 28 (sv s.v a n c0 b m0 d0)
 res : Blk W r 55 (viewV 0 (.slice none 0 0) false 0)
 view : Blk W v 55 (viewV c (.slice none 0 0) o T)
 old : Below w.heap.size w W
 ord : w.heap.size = ps ∧ ps + 1 = r ∧ r + 1 = v
theorem Rv.below {w W W' : World} {s : Sta} {ps r v : Nat} {a : Option Addr} {n c0 : Nat} {b : Option Addr} {m0 d0 c : Nat} {o : Bool} {T : Nat} (h : Rv w W s ps r v a n c0 b m0 d0 c o T) (hb : Below W.heap.size W W') : Rv w W' s ps r v a n c0 b m0 d0 c o T := ⟨h.st.below hb, h.res.below hb, h.view.below hb, h.old.trans (hb.mono h.old.size), h.ord⟩
theorem Rv.kept {w W W' : World} {s : Sta} {ps r v : Nat} {a : Option Addr} {n c0 : Nat} {b : Option Addr} {m0 d0 c : Nat} {o : Bool} {T : Nat} {S : Nat → Prop} (h : Rv w W s ps r v a n c0 b m0 d0 c o T) (hk : Kept S W W') (hs : ∀ k, S k → v < k) : Rv w W' s ps r v a n c0 b m0 d0 c o T :=
 ⟨h.st.kept hk (fun e => by have := hs _ e; have := h.ord; omega), h.res.kept hk (fun e => by have := hs _ e; have := h.ord; omega), h.view.kept hk (fun e => by have := hs _ e; omega), h.old.trans (hk.below h.old.size (fun k e => by have := hs _ e; have := h.ord; omega)), h.ord⟩
theorem Rv.set {w W : World} {s : Sta} {ps r v : Nat} {a : Option Addr} {n c0 : Nat} {b : Option Addr} {m0 d0 c : Nat} {o : Bool} {T : Nat} (h : Rv w W s ps r v a n c0 b m0 d0 c o T) {j : Nat} {u : Value} {o2 : Bool} {T2 : Nat} (e : (viewV c (.slice none 0 0) o T).setIfInBounds j u = viewV c (.slice none 0 0) o2 T2) : Rv w (W.setCell ⟨v, j, none⟩ u) s ps r v a n c0 b m0 d0 c o2 T2 := by
 have hk := Kept.setCell W ⟨v, j, none⟩ u
 have ho := h.ord
 exact ⟨h.st.kept hk (by simp only; omega), h.res.kept hk (by simp only; omega), by rw [← e]; exact h.view.set j u, h.old.trans (hk.below h.old.size (fun k e => by simp only at e; omega)), ho⟩
theorem rv_new (w : World) (s : Sta) (a : Option Addr) (n c0 : Nat) (b : Option Addr) (m0 d0 c : Nat) : Rv w (((w.alloc (.cells (sv s.v a n c0 b m0 d0) 28)).alloc (.cells #[.int .u16 0, .slice none 0 0, .bool false, .int .u32 0] 55)).alloc (.cells #[.int .u16 (c : Int), .slice none 0 0, .bool false, .int .u32 0] 55)) s w.heap.size (w.heap.size + 1) (w.heap.size + 1 + 1) a n c0 b m0 d0 c false 0 := by
 have h1 := Blk.new w 28 (sv s.v a n c0 b m0 d0)
 have h2 := Blk.new (w.alloc (.cells (sv s.v a n c0 b m0 d0) 28)) 55 #[.int .u16 0, .slice none 0 0, .bool false, .int .u32 0]
 have h3 := Blk.new ((w.alloc (.cells (sv s.v a n c0 b m0 d0) 28)).alloc (.cells #[.int .u16 0, .slice none 0 0, .bool false, .int .u32 0] 55)) 55 #[.int .u16 (c : Int), .slice none 0 0, .bool false, .int .u32 0]
 have b2 := below_one (w.alloc (.cells (sv s.v a n c0 b m0 d0) 28)) (.cells #[.int .u16 0, .slice none 0 0, .bool false, .int .u32 0] 55)
 have b3 := below_one ((w.alloc (.cells (sv s.v a n c0 b m0 d0) 28)).alloc (.cells #[.int .u16 0, .slice none 0 0, .bool false, .int .u32 0] 55)) (.cells #[.int .u16 (c : Int), .slice none 0 0, .bool false, .int .u32 0] 55)
 simp only [World.size_alloc] at h2 h3
 exact ⟨(h1.below b2).below b3, h2.below b3, h3, ((below_one w _).trans (b2.mono (by simp))).trans (b3.mono (by simp; omega)), ⟨rfl, rfl, rfl⟩⟩
theorem its_short {c : Nat} {L : List En} {z : Int} {its : List Nat} (h : ItsTo c L z its) : its.length ≤ 65536 := by
 have h1 : its.Nodup := List.nodup_iff_pairwise_ne.2 (h.up.imp fun h => by omega)
 have := h1.length_le_of_subset (l₂ := List.range 65536) (fun x hx => List.mem_range.2 (by have := ((h.mem x).1 hx).1; have := h.hi; omega))
 simpa using this
theorem wrap_u16_id {i : Nat} (hi : i < 65536) : IntKind.u16.wrap (i : Int) = (i : Int) := by
 unfold IntKind.wrap; simp [IntKind.bits, IntKind.signed]; omega
set_option maxRecDepth 100000 in
set_option maxHeartbeats 16000000 in
theorem rview_any {s : Sta} {a b : Option Addr} {n c0 m0 d0 : Nat} {w : World} (hl : SL w s a n b m0) (hn : n < 500000) (hm0 : m0 < 200000) (c : Nat) : Calls Tryz.prog 25 #[.agg (sv s.v a n c0 b m0 d0), .int .u16 (c : Int)] w (CViewP s c w) := by
 have HL := Lib.hid hl
 have HNN := Lib.hid hl.es.len'
 have hb1 := fun (v : V) x y w => box28 v x y w
 have HX0 := Lib.hid (rv_new w s a n c0 b m0 d0 c)
 clear hl
 go_enter Tryz.func25, Tryz.ntmps25
 go_upto_region 2 with fail
 clear hb1
 generalize ((w.alloc (.cells (sv s.v a n c0 b m0 d0) 28)).alloc (.cells #[.int .u16 0, .slice none 0 0, .bool false, .int .u32 0] 55)).alloc (.cells #[.int .u16 (c : Int), .slice none 0 0, .bool false, .int .u32 0] 55) = w0 at HX0
 obtain ⟨ps, hps⟩ : ∃ p, w.heap.size = p := ⟨_, rfl⟩
 obtain ⟨r, hr⟩ : ∃ p, ps + 1 = p := ⟨_, rfl⟩
 obtain ⟨v, hv⟩ : ∃ p, r + 1 = p := ⟨_, rfl⟩
 rw [hps, hr, hv] at HX0
 rw [hps, hr, hv]
 clear hps hr hv
 go_wp2_with (refine wpList_run rfl (exec_load28 rfl rfl HX0.out.st) ?_)
 refine (rRight_any (HL.out.below HX0.out.old) hn (by omega)).mono ?_
 rintro e w1 ⟨q, rfl, hq, hb⟩
 have HX := Lib.hid (HX0.out.below hb)
 clear hb HX0
 cases q
 ·have HNR : Hid (¬ s.Right) := Lib.hid (fun h => by have := hq.2 h; cases this)
  clear hq
  go_wp2_with (refine wpList_stop55 rfl ?_)
  refine ⟨?_⟩
  refine wpList_run rfl (exec_load55 rfl rfl HX.out.view) ?_
  refine wpList_void rfl rfl (exec_store55 rfl rfl rfl HX.out.res) ?_
  have hkr := Kept.setRow w1 r (viewV c (.slice none 0 0) false 0)
  have HRB : Hid (Blk (w1.setRow r (viewV c (.slice none 0 0) false 0)) r 55 (viewV c (.slice none 0 0) false 0)) := Lib.hid HX.out.res.row
  have HE : Hid (CViewP s c w (.returned (.agg (viewV c (.slice none 0 0) false 0))) (w1.setRow r (viewV c (.slice none 0 0) false 0))) := Lib.hid (.inr ⟨HNR.out, rfl, HX.out.old.trans (hkr.below HX.out.old.size (fun i e => by have := HX.out.ord; omega))⟩)
  generalize w1.setRow r (viewV c (.slice none 0 0) false 0) = wz at HRB HE
  clear hkr
  go_wp2_with fail
  exact bodyPost_ret (ret55 rfl rfl HRB.out) rfl HE.out
 have HRT := Lib.hid (hq.1 rfl)
 clear hq
 go_wp2_with (refine wpList_run rfl (exec_load28 rfl rfl HX.out.st) ?_)
 refine (tick_any (HL.out.below HX.out.old) (by omega) c).mono ?_
 rintro e w2 ⟨rfl, hb⟩
 have HX2 := Lib.hid (HX.out.below hb)
 clear hb HX
 obtain ⟨T, hT⟩ : ∃ T, (tkOf s.ts c).getD 0 = T := ⟨_, rfl⟩
 have HTT := Lib.hid hT
 rw [hT]
 clear hT
 generalize (tkOf s.ts c).isSome = tis
 have ct : w2.cell? ⟨v, 3, none⟩ = some (.int .u32 0) := by rw [HX2.out.view.cell]; rfl
 have ft : w2.frozen? ⟨v, 3, none⟩ = false := HX2.out.view.frozen 3
 have HX3 : Hid (Rv w (w2.setCell ⟨v, 3, none⟩ (.int .u32 (T : Int))) s ps r v a n c0 b m0 d0 c (coutTo c s.es 0) T) := Lib.hid (HX2.out.set (by rfl))
 go_upto_region 7 with fail
 clear ct ft HX2
 generalize w2.setCell ⟨v, 3, none⟩ (.int .u32 (T : Int)) = w3 at HX3 ⊢
 go_loopw [8] (fun i wr => ∃ k : Nat, k ≤ n ∧ i = .int .i64 (k : Int) ∧ Hid (Rv w wr s ps r v a n c0 b m0 d0 c (coutTo c s.es k) T)) (fun i _ => n - (intOf i).toNat)
 case atStart => exact ⟨0, Nat.zero_le _, rfl, HX3⟩
 case round =>
  obtain ⟨k, hk, rfl, HX4⟩ := hrel
  clear HX3
  have c16 := stc16 HX4.out.st
  by_cases hlt : k < n
  ·obtain ⟨g, off, x, rfl, hx, hrw⟩ := EL.at (HL.out.es.below HX4.out.old) hlt
   have HXX := Lib.hid (coutTo_succ (c := c) hx)
   have e0 : wr.cell? ⟨g, off + k * 7, none⟩ = some (.int .u16 (x.c : Int)) := by have := hrw 0 _ rfl; simpa using this
   have e3 : wr.cell? ⟨g, off + k * 7 + 3, none⟩ = some (.int .u8 (x.k : Int)) := hrw 3 _ rfl
   have co : wr.cell? ⟨v, 2, none⟩ = some (.bool (coutTo c s.es k)) := by rw [HX4.out.view.cell]; rfl
   have fo : wr.frozen? ⟨v, 2, none⟩ = false := HX4.out.view.frozen 2
   clear hx hrw
   obtain ⟨b2, hb2⟩ : ∃ b2, coutTo c s.es (k + 1) = b2 := ⟨_, rfl⟩
   rw [hb2] at HXX
   have HX5 : Hid (Rv w (wr.setCell ⟨v, 2, none⟩ (.bool b2)) s ps r v (some ⟨g, off, none⟩) n c0 b m0 d0 c (coutTo c s.es (k + 1)) T) := Lib.hid (by rw [hb2]; exact HX4.out.set rfl)
   clear hb2
   obtain ⟨b1, hb1⟩ : ∃ b1, coutTo c s.es k = b1 := ⟨_, rfl⟩
   rw [hb1] at HXX co
   clear hb1
   cases b1
   case true =>
    have hq : b2 = true := by rw [HXX.out]; rfl
    clear HXX
    subst hq
    go_wp2_with fail
    go_roundw
    case rel => exact ⟨k + 1, hlt, by go_num, HX5⟩
    case measure => simp [intOf]; omega
   case false =>
    by_cases hc : x.c = c
    ·have q1 := eqT hc
     by_cases h4 : x.k = 4
     ·have hq : b2 = true := by rw [HXX.out]; simp [hc, h4]
      have q4 : ((x.k : Int) == 4) = true := by simp; omega
      clear HXX hc h4
      subst hq
      go_wp2_with fail
      go_roundw
      case rel => exact ⟨k + 1, hlt, by go_num, HX5⟩
      case measure => simp [intOf]; omega
     ·have hq : b2 = false := by rw [HXX.out]; simp [h4]
      have q4 : ((x.k : Int) == 4) = false := by simp; omega
      clear HXX hc h4
      subst hq
      go_wp2_with fail
      go_roundw
      case rel => exact ⟨k + 1, hlt, by go_num, HX5⟩
      case measure => simp [intOf]; omega
    ·have hq : b2 = false := by rw [HXX.out]; simp [hc]
     have q1 := eqFa hc
     clear HXX hc
     subst hq
     go_wp2_with fail
     go_roundw
     case rel => exact ⟨k + 1, hlt, by go_num, HX5⟩
     case measure => simp [intOf]; omega
  ·have hkn : k = s.es.length := by have := HNN.out; omega
   have HX6 : Hid (Rv w wr s ps r v a n c0 b m0 d0 c (coutTo c s.es s.es.length) T) := Lib.hid (hkn ▸ HX4.out)
   clear HX4 hkn
   obtain ⟨o, ho⟩ : ∃ o, coutTo c s.es s.es.length = o := ⟨_, rfl⟩
   rw [ho] at HX6
   have HOO := Lib.hid ho
   clear ho
   obtain ⟨B, hB⟩ : ∃ B, wr.heap.size = B := ⟨_, rfl⟩
   have HO0 : Hid (OwnG wr 86 2 B none 0 0 (([] : List Nat).map (clineCs c s.es))) := Lib.hid (ownG_nil wr 86 2 B)
   have HVB : Hid (v < B) := Lib.hid (by rw [← hB]; exact HX6.out.view.lt)
   have HZ0 : Hid (B ≤ wr.heap.size) := Lib.hid (by omega)
   clear hB
   go_wp2_with fail
   clear c16
   have HN1 : Hid (∀ e ∈ s.es, 1 ≤ e.n) := Lib.hid (fun e he => (HRT.out.has e he).2.2.2.1)
   go_loopw [9, 10] (fun ls la W => ∃ (its : List Nat) (a1 : Option Addr) (c1 : Nat) (z : Int), ls = .slice a1 its.length c1 ∧ la = .int .i64 z ∧ Hid (ItsTo c s.es z its) ∧ Hid (OwnG W 86 2 B a1 its.length c1 (its.map (clineCs c s.es))) ∧ Hid (Rv w W s ps r v a n c0 b m0 d0 c o T) ∧ Hid (B ≤ W.heap.size)) (fun _ la _ => 65537 - (intOf la + 1).toNat)
   case atStart => exact ⟨[], none, 0, -1, rfl, rfl, Lib.hid (ItsTo.start _ _), HO0, HX6, HZ0⟩
   case round =>
    obtain ⟨its, a1, c1, z, rfl, rfl, HI, HO, HX7, HZ⟩ := hrel
    clear HO0 HX6 HZ0
    go_wp2_with fail
    go_loopw [11, 12] (fun nx iv W => ∃ (k : Nat) (x : Int), k ≤ n ∧ nx = .int .i64 x ∧ iv = .int .i64 (k : Int) ∧ Hid (NextTo c s.es z k x) ∧ Hid (OwnG W 86 2 B a1 its.length c1 (its.map (clineCs c s.es))) ∧ Hid (Rv w W s ps r v a n c0 b m0 d0 c o T) ∧ Hid (B ≤ W.heap.size)) (fun _ iv _ => n - (intOf iv).toNat)
    case atStart => exact ⟨0, -1, Nat.zero_le _, rfl, rfl, Lib.hid (NextTo.start _ _ _), HO, HX7, HZ⟩
    case round =>
     obtain ⟨k, x, hk, rfl, rfl, HNX, HO8, HX8, HZ8⟩ := hrel
     clear HO HX7 HZ
     have c16 := stc16 HX8.out.st
     by_cases hlt : k < n
     ·obtain ⟨g, off, y, rfl, hy, hrw⟩ := EL.at (HL.out.es.below HX8.out.old) hlt
      have HY := Lib.hid hy
      have e1 : wr.cell? ⟨g, off + k * 7 + 1, none⟩ = some (.int .u16 (y.i : Int)) := hrw 1 _ rfl
      have hwi : wrap64 (y.i : Int) = (y.i : Int) := wrap64_u16 y.hi
      clear hy hrw
      go_wp2_with (refine wpList_run rfl (exec_load28 rfl rfl HX8.out.st) ?_)
      clear e1 c16 hwi
      refine (rquant_any (HL.out.below HX8.out.old) hn HN1.out c y.i).mono ?_
      rintro e w9 ⟨rfl, hb⟩
      have HO9 := Lib.hid (HO8.out.below hb)
      have HX9 := Lib.hid (HX8.out.below hb)
      have HZ9 := Lib.hid (Nat.le_trans HZ8.out hb.size)
      clear hb HO8 HX8 HZ8
      have HH : Hid (hasI c s.es y.i = (camTo c s.es s.es.length y.i).isSome) := Lib.hid rfl
      generalize (camTo c s.es s.es.length y.i).isSome = any at HH ⊢
      cases any
      case false =>
       have HN9 := Lib.hid (HNX.out.skip HY.out (.inl HH.out))
       go_wp2_with fail
       go_roundw
       case rel => exact ⟨k + 1, x, hlt, rfl, by go_num, HN9, HO9, HX9, HZ9⟩
       case measure => simp [intOf]; omega
      case true =>
       by_cases hz : z < (y.i : Int)
       case neg =>
        have HN9 := Lib.hid (HNX.out.skip HY.out (.inr (.inl hz)))
        have q1 : decide (z < (y.i : Int)) = false := decide_eq_false hz
        clear hz
        go_wp2_with fail
        go_roundw
        case rel => exact ⟨k + 1, x, hlt, rfl, by go_num, HN9, HO9, HX9, HZ9⟩
        case measure => simp [intOf]; omega
       have q1 : decide (z < (y.i : Int)) = true := decide_eq_true hz
       by_cases hx0 : x < 0
       ·have q2 : decide (x < 0) = true := decide_eq_true hx0
        have HN9 := Lib.hid (HNX.out.take HY.out HH.out hz (.inl hx0))
        clear hz hx0
        go_wp2_with fail
        go_roundw
        case rel => exact ⟨k + 1, _, hlt, rfl, by go_num, HN9, HO9, HX9, HZ9⟩
        case measure => simp [intOf]; omega
       ·have q2 : decide (x < 0) = false := decide_eq_false hx0
        by_cases hyx : (y.i : Int) < x
        ·have q3 : decide ((y.i : Int) < x) = true := decide_eq_true hyx
         have HN9 := Lib.hid (HNX.out.take HY.out HH.out hz (.inr hyx))
         clear hz hx0 hyx
         go_wp2_with fail
         go_roundw
         case rel => exact ⟨k + 1, _, hlt, rfl, by go_num, HN9, HO9, HX9, HZ9⟩
         case measure => simp [intOf]; omega
        ·have q3 : decide ((y.i : Int) < x) = false := decide_eq_false hyx
         have HN9 := Lib.hid (HNX.out.skip HY.out (.inr (.inr ⟨by omega, by omega⟩)))
         clear hz hx0 hyx
         go_wp2_with fail
         go_roundw
         case rel => exact ⟨k + 1, x, hlt, rfl, by go_num, HN9, HO9, HX9, HZ9⟩
         case measure => simp [intOf]; omega
     ·have HNY : Hid (NextTo c s.es z s.es.length x) := Lib.hid ((show k = s.es.length by have := HNN.out; omega) ▸ HNX.out)
      clear HNX
      rcases HNY.out.is with hx | ⟨i, hx, hi, hzi, _⟩
      ·subst hx
       have HCI := Lib.hid (HI.out.done HNY.out)
       go_wp2_with (first | (refine wpList_stop55 rfl ?_) | (refine wpList_void rfl rfl (exec_stSl rfl rfl rfl HX8.out.view (by rw [viewV_size]; omega)) ?_))
       have hk1 := Kept.setCell wr ⟨v, 1, none⟩ (.slice a1 its.length c1)
       have HV1 : Hid (Blk (wr.setCell ⟨v, 1, none⟩ (.slice a1 its.length c1)) v 55 (viewV c (.slice a1 its.length c1) o T)) := Lib.hid (HX8.out.view.set 1 (.slice a1 its.length c1))
       have HR1 : Hid (Blk (wr.setCell ⟨v, 1, none⟩ (.slice a1 its.length c1)) r 55 (viewV 0 (.slice none 0 0) false 0)) := Lib.hid (HX8.out.res.kept hk1 (by have := HX8.out.ord; simp only; omega))
       have HB1 : Hid (Below w.heap.size w (wr.setCell ⟨v, 1, none⟩ (.slice a1 its.length c1))) := Lib.hid (HX8.out.old.trans (hk1.below HX8.out.old.size (fun k e => by have := HX8.out.ord; simp only at e; omega)))
       have HG1 : Hid (OwnG (wr.setCell ⟨v, 1, none⟩ (.slice a1 its.length c1)) 86 2 B a1 its.length c1 (its.map (clineCs c s.es))) := Lib.hid (HO8.out.keep hk1 (fun ad e h => by have := (HO8.out.lt ad e).1; have := HVB.out; simp only at h; omega))
       have HRR : Hid (w.heap.size ≤ r ∧ w.heap.size ≤ B ∧ r < B) := Lib.hid (by have := HX8.out.ord; have := HVB.out; omega)
       clear hk1 HO8 HX8
       generalize wr.setCell ⟨v, 1, none⟩ (.slice a1 its.length c1) = w10 at HV1 HR1 HB1 HG1 ⊢
       refine ⟨?_⟩
       refine wpList_run rfl (exec_load55 rfl rfl HV1.out) ?_
       refine wpList_void rfl rfl (exec_store55 rfl rfl rfl HR1.out) ?_
       have hkr := Kept.setRow w10 r (viewV c (.slice a1 its.length c1) o T)
       have HRB : Hid (Blk (w10.setRow r (viewV c (.slice a1 its.length c1) o T)) r 55 (viewV c (.slice a1 its.length c1) o T)) := Lib.hid HR1.out.row
       have HGB : Hid (OwnG (w10.setRow r (viewV c (.slice a1 its.length c1) o T)) 86 2 w.heap.size a1 its.length c1 (its.map (clineCs c s.es))) := Lib.hid ((HG1.out.keep hkr (fun ad e h => by have := (HG1.out.lt ad e).1; have := HRR.out; omega)).mono HRR.out.2.1)
       have HE : Hid (CViewP s c w (.returned (.agg (viewV c (.slice a1 its.length c1) o T))) (w10.setRow r (viewV c (.slice a1 its.length c1) o T))) := Lib.hid (.inl ⟨HRT.out, its, a1, c1, HCI.out, by rw [HOO.out, HTT.out], HGB.out, HB1.out.trans (hkr.below HB1.out.size (fun i e => by have := HRR.out; omega))⟩)
       generalize w10.setRow r (viewV c (.slice a1 its.length c1) o T) = wz at HRB HE
       clear hkr HGB HV1 HR1 HB1 HG1
       go_wp2_with fail
       exact bodyPost_ret (ret55 rfl rfl HRB.out) rfl HE.out
      ·subst hx
       obtain ⟨hit, hzi2⟩ := HI.out.next HNY.out
       have HIT := Lib.hid hit
       have q2 : decide ((i : Int) < 0) = false := by simp
       have HMZ : Hid (-1 ≤ z) := Lib.hid HI.out.lo
       clear hit hzi2
       go_wp2_with (refine wpList_run rfl (exec_load28 rfl rfl HX8.out.st) ?_)
       clear c16
       refine (rquant_any (HL.out.below HX8.out.old) hn HN1.out c i).mono ?_
       rintro e w9 ⟨rfl, hb⟩
       have HO9 := Lib.hid (HO8.out.below hb)
       have HX9 := Lib.hid (HX8.out.below hb)
       have HZ9 := Lib.hid (Nat.le_trans HZ8.out hb.size)
       clear hb HO8 HX8 HZ8
       generalize (camTo c s.es s.es.length i).isSome = any
       have hcv : IntKind.u16.wrap (i : Int) = (i : Int) := wrap_u16_id hi
       have hcv2 : (i : Int) % 65536 = (i : Int) := by omega
       go_wp2_with (first | (refine wpList_run rfl (exec_bldLine (i := i) (n := cqtyAt c s.es i) rfl rfl rfl) ?_) | (refine wpList_run rfl (exec_bsLine (cs := clineCs c s.es i) rfl rfl rfl) ?_) | (at_builtin; refine wpList_appendG 53 86 2 8 info86 und53 rfl (by decide) (by decide) rfl rfl rfl rfl (HO9.out.below (below_one w9 _)) (Blk.new w9 86 (clineCs c s.es i).toArray) rfl (by simp [Value.oneCell', clineCs]) (by have := its_short HI.out; omega) (by have := HZ9.out; simp; omega) ?_; intro a3 c3 w11 ho hk3 hl3; have HO3 := Lib.hid ho; have HK3 := Lib.hid hk3; clear ho hk3 hl3))
       go_roundw
       case rel =>
        have hat : ∀ k, At a1 k → B ≤ k := fun k ⟨ad0, had, e⟩ => by rw [e]; exact (HO9.out.lt ad0 had).1
        exact ⟨its ++ [i], a3, c3, (i : Int), by simp, rfl, HIT, Lib.hid (by have h := HO3.out; simp only [List.map_append, List.map_cons, List.map_nil, List.length_append, List.length_cons, List.length_nil]; exact h), Lib.hid ((HX9.out.below (below_one w9 _)).kept HK3.out (fun k e => by have := hat k e; have := HVB.out; omega)), Lib.hid (by have h5 := HK3.out.size; rw [World.size_alloc] at h5; have := HZ9.out; omega)⟩
       case measure => have := HMZ.out; simp [intOf]; omega
end Go.Proofs.YtnekpgmgnepdoaaGreat
end
section
namespace Go.Proofs.YtnekpgmgnepdoaaGreat
open Go.RowKit
section
variable {ev : Operand → Value} {q : Oper} {w : World}
theorem exec_idxL {x y : Operand} {b off n cap i : Nat} {z : Int} (ho : q.op = .indexAddr 53 x y) (hx : ev x = .slice (some ⟨b, off, none⟩) n cap) (hy : ev y = .int .i64 z) (hz : z = (i : Int)) (hi : i < n) : (execOp ev q).run Tryz.prog w = .ok (.value (.pointer (some ⟨b, off + i * 2, none⟩))) w := by
 subst hz
 have u28 := und53
 unfold execOp
 simp only [ho, hx, hy]
 go_simp
end
abbrev vw (c : Nat) (a : Option Addr) (n cap : Nat) (o : Bool) (t : Nat) : Array Value := #[.int .u16 (c : Int), .slice a n cap, .bool o, .int .u32 (t : Int)]
def ln (x : Nat × Nat) : List Value := [.int .u16 (x.1 : Int), .int .u32 (x.2 : Int)]
section
variable {ev : Operand → Value} {q : Oper} {w : World}
theorem box55 (c : Nat) (a : Option Addr) (n cap : Nat) (o : Bool) (t : Nat) (w : World) : (Instr.box 55 (.agg (vw c a n cap o t))).run Tryz.prog w = .ok (.pointer (some ⟨w.heap.size, 0, none⟩)) (w.alloc (.cells (vw c a n cap o t) 55)) := by
 simp [Instr.box, newVar, newRow, Value.cells, go_sem]
theorem exec_ld86 {x : Operand} {b off i n : Nat} (ho : q.op = .load 86 x) (hx : ev x = .pointer (some ⟨b, off, none⟩)) (h : w.rangeAt b off (ln (i, n))) : (execOp ev q).run Tryz.prog w = .ok (.value (.agg #[.int .u16 (i : Int), .int .u32 (n : Int)])) w := by
 have hl := run_loadVar_mid (P := Tryz.prog) w b off 86 (ln (i, n)) _ h Tryz.underlying86 rfl (by kernel_rfl)
 refine exec_cell ho hx ?_
 simp only [Instr.loadAt, Instr.sureAddr, Sem.run_bind, Sem.run_pure, Result.andThen_ok, hl]
 rfl
theorem exec_neq86 {x y : Operand} {i n : Nat} (ho : q.op = .binOp .neq 86 x y 86) (hx : ev x = .agg #[.int .u16 (i : Int), .int .u32 (n : Int)]) (hy : ev y = .agg #[.int .u16 (i : Int), .int .u32 (n : Int)]) : (execOp ev q).run Tryz.prog w = .ok (.value (.bool false)) w := by
 unfold execOp
 simp only [ho, hx, hy]
 go_simp
end
structure Sm (w W : World) (g1 g2 c : Nat) (a1 a2 : Option Addr) (n cap1 cap2 : Nat) (o : Bool) (t : Nat) (ls : List (Nat × Nat)) : Prop where
 one : Blk W g1 55 (vw c a1 n cap1 o t)
 two : Blk W g2 55 (vw c a2 n cap2 o t)
 gl1 : GL W 2 a1 n (ls.map ln)
 gl2 : GL W 2 a2 n (ls.map ln)
 old : Below w.heap.size w W
theorem Sm.below {w W W' : World} {g1 g2 c n cap1 cap2 t : Nat} {a1 a2 : Option Addr} {o : Bool} {ls : List (Nat × Nat)} (h : Sm w W g1 g2 c a1 a2 n cap1 cap2 o t ls) (hb : Below W.heap.size W W') : Sm w W' g1 g2 c a1 a2 n cap1 cap2 o t ls :=
 ⟨h.one.below hb, h.two.below hb, h.gl1.below hb, h.gl2.below hb, h.old.trans (hb.mono h.old.size)⟩
structure Sr2 (W : World) (g1 g2 c b1 b2 o1 o2 n cap1 cap2 j i q : Nat) (o : Bool) (t : Nat) : Prop where
 one : Blk W g1 55 (vw c (some ⟨b1, o1, none⟩) n cap1 o t)
 two : Blk W g2 55 (vw c (some ⟨b2, o2, none⟩) n cap2 o t)
 r1 : W.rangeAt b1 (o1 + j * 2) (ln (i, q))
 r2 : W.rangeAt b2 (o2 + j * 2) (ln (i, q))
theorem vc1 {w : World} {g c : Nat} {a : Option Addr} {n cap : Nat} {o : Bool} {t : Nat} (h : Blk w g 55 (vw c a n cap o t)) : w.cell? ⟨g, 1, none⟩ = some (.slice a n cap) := by rw [h.cell]; rfl
def SmR (w : World) (g1 g2 c : Nat) (a1 a2 : Option Addr) (n cap1 cap2 : Nat) (o : Bool) (t : Nat) (ls : List (Nat × Nat)) (u : Value) (W : World) : Prop :=
 ∃ j : Nat, u = .int .i64 (j : Int) ∧ j ≤ n ∧ Hid (Sm w W g1 g2 c a1 a2 n cap1 cap2 o t ls)
set_option maxRecDepth 100000 in
set_option maxHeartbeats 2000000 in
theorem vsame_any (c : Nat) (a1 a2 : Option Addr) (n cap1 cap2 : Nat) (o : Bool) (t : Nat) (ls : List (Nat × Nat)) (w : World) (hn : n < 1000000) (h1 : GL w 2 a1 n (ls.map ln)) (h2 : GL w 2 a2 n (ls.map ln)) : Calls Tryz.prog 23 #[.agg (vw c a1 n cap1 o t), .agg (vw c a2 n cap2 o t)] w (Says (.bool true) w) := by
 have hb1 := fun (a : Option Addr) (cap : Nat) (w : World) => box55 c a n cap o t w
 have HS0 : Hid (Sm w ((w.alloc (.cells (vw c a1 n cap1 o t) 55)).alloc (.cells (vw c a2 n cap2 o t) 55)) w.heap.size (w.heap.size + 1) c a1 a2 n cap1 cap2 o t ls) := Lib.hid ⟨(Blk.new w 55 _).below (below_one _ _), by
  have h := Blk.new (w.alloc (.cells (vw c a1 n cap1 o t) 55)) 55 (vw c a2 n cap2 o t)
  rw [World.size_alloc] at h
  exact h, h1.below (below_two' _ _ _), h2.below (below_two' _ _ _), below_two' _ _ _⟩
 clear h1 h2
 go_enter Tryz.func23, Tryz.ntmps23
 go_upto_region 1 with fail
 clear hb1
 generalize (w.alloc (.cells (vw c a1 n cap1 o t) 55)).alloc (.cells (vw c a2 n cap2 o t) 55) = w0 at HS0
 obtain ⟨g2, hg2⟩ : ∃ g, w.heap.size + 1 = g := ⟨_, rfl⟩
 obtain ⟨g1, hg1⟩ : ∃ g, w.heap.size = g := ⟨_, rfl⟩
 rw [hg2, hg1] at HS0
 rw [hg2, hg1]
 clear hg1 hg2
 have c10 : w0.cell? ⟨g1, 0, none⟩ = some (.int .u16 (c : Int)) := by rw [HS0.out.one.cell]; rfl
 have c11 := vc1 HS0.out.one
 have c12 : w0.cell? ⟨g1, 2, none⟩ = some (.bool o) := by rw [HS0.out.one.cell]; rfl
 have c13 : w0.cell? ⟨g1, 3, none⟩ = some (.int .u32 (t : Int)) := by rw [HS0.out.one.cell]; rfl
 have c20 : w0.cell? ⟨g2, 0, none⟩ = some (.int .u16 (c : Int)) := by rw [HS0.out.two.cell]; rfl
 have c21 := vc1 HS0.out.two
 have c22 : w0.cell? ⟨g2, 2, none⟩ = some (.bool o) := by rw [HS0.out.two.cell]; rfl
 have c23 : w0.cell? ⟨g2, 3, none⟩ = some (.int .u32 (t : Int)) := by rw [HS0.out.two.cell]; rfl
 go_wp2_with fail
 clear c10 c11 c12 c13 c20 c21 c22 c23
 go_loopw [5] (SmR w g1 g2 c a1 a2 n cap1 cap2 o t ls) (fun u _ => n - (numI u).toNat)
 case atStart => exact ⟨0, rfl, Nat.zero_le _, HS0⟩
 case round =>
  obtain ⟨j, rfl, hj, HS⟩ := hrel
  clear HS0
  have c11 := vc1 HS.out.one
  by_cases hlt : j < n
  ·have hlen : ls.length = n := by simpa using HS.out.gl1.len
   obtain ⟨⟨i, q⟩, hiq⟩ : ∃ x, ls[j]? = some x := ⟨_, List.getElem?_eq_getElem (by omega)⟩
   obtain ⟨b1, o1, e1, r1⟩ : ∃ b off, a1 = some ⟨b, off, none⟩ ∧ wr.rangeAt b (off + j * 2) (ln (i, q)) := by
    rcases HS.out.gl1.cells with h0 | ⟨b, off, ha, hc⟩
    ·omega
    ·exact ⟨b, off, ha, hc j _ (by simp [hiq])⟩
   obtain ⟨b2, o2, e2, r2⟩ : ∃ b off, a2 = some ⟨b, off, none⟩ ∧ wr.rangeAt b (off + j * 2) (ln (i, q)) := by
    rcases HS.out.gl2.cells with h0 | ⟨b, off, ha, hc⟩
    ·omega
    ·exact ⟨b, off, ha, hc j _ (by simp [hiq])⟩
   subst e1 e2
   have HR : Hid (Sr2 wr g1 g2 c b1 b2 o1 o2 n cap1 cap2 j i q o t) := Lib.hid ⟨HS.out.one, HS.out.two, r1, r2⟩
   clear hiq r1 r2 hlen
   go_upto_region 6 with fail
   clear c11
   refine wp_region_held_drew (S := fun w' => Sr2 w' g1 g2 c b1 b2 o1 o2 n cap1 cap2 j i q o t) (by kernel_rfl) ⟨HR.out.one, HR.out.two, HR.out.r1, HR.out.r2⟩ (fun hS => ?_)
   refine held_tk 0 41 (.pointer (some ⟨g1, 1, none⟩)) rfl rfl (by kernel_rfl) (fun _ _ _ h => h) (fun _ _ => (by kernel_rfl)) hS ?_
   simp only [Act.put, ap1, ap2, ap3]
   refine held_tk 1 42 (.slice (some ⟨b1, o1, none⟩) n cap1) rfl rfl (by kernel_rfl) (fun _ _ _ h => h) (fun _ h => exec_cell rfl rfl (load_cell (by kernel_rfl) (vc1 h.one))) hS ?_
   simp only [Act.put, ap1, ap2, ap3]
   refine held_tk 2 43 (.int .i64 (j : Int)) rfl rfl (by kernel_rfl) (fun _ _ _ h => h) (fun _ _ => rfl) hS ?_
   simp only [Act.put, ap1, ap2, ap3]
   refine held_tk 3 44 (.pointer (some ⟨b1, o1 + j * 2, none⟩)) rfl rfl (by kernel_rfl) (fun _ _ _ h => h) (fun _ _ => exec_idxL (i := j) rfl rfl rfl rfl hlt) hS ?_
   simp only [Act.put, ap1, ap2, ap3]
   refine held_tk 4 45 (.agg #[.int .u16 (i : Int), .int .u32 (q : Int)]) rfl rfl (by kernel_rfl) (fun _ _ _ h => h) (fun _ h => exec_ld86 rfl rfl h.r1) hS ?_
   simp only [Act.put, ap1, ap2, ap3]
   refine held_tk 5 46 (.pointer (some ⟨g2, 1, none⟩)) rfl rfl (by kernel_rfl) (fun _ _ _ h => h) (fun _ _ => (by kernel_rfl)) hS ?_
   simp only [Act.put, ap1, ap2, ap3]
   refine held_tk 6 47 (.slice (some ⟨b2, o2, none⟩) n cap2) rfl rfl (by kernel_rfl) (fun _ _ _ h => h) (fun _ h => exec_cell rfl rfl (load_cell (by kernel_rfl) (vc1 h.two))) hS ?_
   simp only [Act.put, ap1, ap2, ap3]
   refine held_tk 7 48 (.int .i64 (j : Int)) rfl rfl (by kernel_rfl) (fun _ _ _ h => h) (fun _ _ => rfl) hS ?_
   simp only [Act.put, ap1, ap2, ap3]
   refine held_tk 8 49 (.pointer (some ⟨b2, o2 + j * 2, none⟩)) rfl rfl (by kernel_rfl) (fun _ _ _ h => h) (fun _ _ => exec_idxL (i := j) rfl rfl rfl rfl hlt) hS ?_
   simp only [Act.put, ap1, ap2, ap3]
   refine held_tk 9 50 (.agg #[.int .u16 (i : Int), .int .u32 (q : Int)]) rfl rfl (by kernel_rfl) (fun _ _ _ h => h) (fun _ h => exec_ld86 rfl rfl h.r2) hS ?_
   simp only [Act.put, ap1, ap2, ap3]
   refine held_tk 10 51 (.bool false) rfl rfl (by kernel_rfl) (fun _ _ _ h => h) (fun _ _ => exec_neq86 rfl rfl rfl) hS ?_
   simp only [Act.put, ap1, ap2, ap3]
   refine wpAnyH_done (by kernel_rfl) ?_ _
   have HSN := Lib.hid (HS.out.below (drew_below wr))
   clear hS
   go_wp2_with fail
   go_roundw
   case rel => exact ⟨j + 1, by go_num, by omega, HSN⟩
   case measure => simp [numI]; omega
  ·go_wp2_with fail
   go_ret
   exact ⟨rfl, HS.out.old⟩
section
variable {ev : Operand → Value} {q : Oper} {w : World}
theorem exec_idxN {x y : Operand} {b off n cap i : Nat} {z : Int} (ho : q.op = .indexAddr 59 x y) (hx : ev x = .slice (some ⟨b, off, none⟩) n cap) (hy : ev y = .int .i64 z) (hz : z = (i : Int)) (hi : i < n) : (execOp ev q).run Tryz.prog w = .ok (.value (.pointer (some ⟨b, off + i * 1, none⟩))) w := by
 subst hz
 have u59 := und59u
 unfold execOp
 simp only [ho, hx, hy]
 go_simp
end
structure carteqS (w W : World) (a1 a2 : Option Addr) (n : Nat) (ls : List Nat) : Prop where
 gl1 : GL W 1 a1 n (ones ls)
 gl2 : GL W 1 a2 n (ones ls)
 old : Below w.heap.size w W
theorem carteqS.below {w W W' : World} {a1 a2 : Option Addr} {n : Nat} {ls : List Nat} (h : carteqS w W a1 a2 n ls) (hb : Below W.heap.size W W') : carteqS w W' a1 a2 n ls := ⟨h.gl1.below hb, h.gl2.below hb, h.old.trans (hb.mono h.old.size)⟩
def carteqR (w : World) (a1 a2 : Option Addr) (n : Nat) (ls : List Nat) (u : Value) (W : World) : Prop := ∃ j : Nat, u = .int .i64 (j : Int) ∧ j ≤ n ∧ Hid (carteqS w W a1 a2 n ls)
set_option maxRecDepth 100000 in
set_option maxHeartbeats 2000000 in
theorem carteq_any (a1 a2 : Option Addr) (n cap1 cap2 : Nat) (ls : List Nat) (w : World) (hn : n < 1000000) (h1 : GL w 1 a1 n (ones ls)) (h2 : GL w 1 a2 n (ones ls)) : Calls Tryz.prog 26 #[.slice a1 n cap1, .slice a2 n cap2] w (Says (.bool true) w) := by
 have HS0 : Hid (carteqS w w a1 a2 n ls) := Lib.hid ⟨h1, h2, Below.refl _ _⟩
 clear h1 h2
 go_enter Tryz.func26, Tryz.ntmps26
 go_wp2_with fail
 go_loopw [13] (carteqR w a1 a2 n ls) (fun u _ => n - (numI u).toNat)
 case atStart => exact ⟨0, rfl, Nat.zero_le _, HS0⟩
 case round =>
  obtain ⟨j, rfl, hj, HS⟩ := hrel
  clear HS0
  by_cases hlt : j < n
  ·have hlen : ls.length = n := by simpa [ones] using HS.out.gl1.len
   obtain ⟨x, hx⟩ : ∃ x, ls[j]? = some x := ⟨_, List.getElem?_eq_getElem (by omega)⟩
   obtain ⟨b1, o1, e1, r1⟩ : ∃ b off, a1 = some ⟨b, off, none⟩ ∧ wr.cell? ⟨b, off + j * 1, none⟩ = some (.int .u16 (x : Int)) := by
    rcases HS.out.gl1.cells with h0 | ⟨b, off, ha, hc⟩
    ·omega
    ·exact ⟨b, off, ha, (by have h := hc j [encK x] (by simp [ones, hx]) 0 (encK x) rfl; rw [Nat.add_zero] at h; exact h)⟩
   obtain ⟨b2, o2, e2, r2⟩ : ∃ b off, a2 = some ⟨b, off, none⟩ ∧ wr.cell? ⟨b, off + j * 1, none⟩ = some (.int .u16 (x : Int)) := by
    rcases HS.out.gl2.cells with h0 | ⟨b, off, ha, hc⟩
    ·omega
    ·exact ⟨b, off, ha, (by have h := hc j [encK x] (by simp [ones, hx]) 0 (encK x) rfl; rw [Nat.add_zero] at h; exact h)⟩
   subst e1 e2
   have H1 := Lib.hid r1
   have H2 := Lib.hid r2
   clear hx r1 r2 hlen
   go_upto_region 6 with fail
   refine wp_region_held_drew (S := fun w' => w'.cell? ⟨b1, o1 + j * 1, none⟩ = some (.int .u16 (x : Int)) ∧ w'.cell? ⟨b2, o2 + j * 1, none⟩ = some (.int .u16 (x : Int))) (by kernel_rfl) ⟨H1.out, H2.out⟩ (fun hS => ?_)
   refine held_tk 0 16 (.slice (some ⟨b1, o1, none⟩) n cap1) rfl rfl (by kernel_rfl) (fun _ _ _ h => h) (fun _ _ => rfl) hS ?_
   simp only [Act.put, ap1, ap2, ap3]
   refine held_tk 1 17 (.int .i64 (j : Int)) rfl rfl (by kernel_rfl) (fun _ _ _ h => h) (fun _ _ => rfl) hS ?_
   simp only [Act.put, ap1, ap2, ap3]
   refine held_tk 2 18 (.pointer (some ⟨b1, o1 + j * 1, none⟩)) rfl rfl (by kernel_rfl) (fun _ _ _ h => h) (fun _ _ => exec_idxN (i := j) rfl rfl rfl rfl hlt) hS ?_
   simp only [Act.put, ap1, ap2, ap3]
   refine held_tk 3 19 (.int .u16 (x : Int)) rfl rfl (by kernel_rfl) (fun _ _ _ h => h) (fun _ h => exec_cell rfl rfl (load_cell (by kernel_rfl) h.1)) hS ?_
   simp only [Act.put, ap1, ap2, ap3]
   refine held_tk 4 20 (.slice (some ⟨b2, o2, none⟩) n cap2) rfl rfl (by kernel_rfl) (fun _ _ _ h => h) (fun _ _ => rfl) hS ?_
   simp only [Act.put, ap1, ap2, ap3]
   refine held_tk 5 21 (.int .i64 (j : Int)) rfl rfl (by kernel_rfl) (fun _ _ _ h => h) (fun _ _ => rfl) hS ?_
   simp only [Act.put, ap1, ap2, ap3]
   refine held_tk 6 22 (.pointer (some ⟨b2, o2 + j * 1, none⟩)) rfl rfl (by kernel_rfl) (fun _ _ _ h => h) (fun _ _ => exec_idxN (i := j) rfl rfl rfl rfl hlt) hS ?_
   simp only [Act.put, ap1, ap2, ap3]
   refine held_tk 7 23 (.int .u16 (x : Int)) rfl rfl (by kernel_rfl) (fun _ _ _ h => h) (fun _ h => exec_cell rfl rfl (load_cell (by kernel_rfl) h.2)) hS ?_
   simp only [Act.put, ap1, ap2, ap3]
   refine held_tk 8 24 (.bool false) rfl rfl (by kernel_rfl) (fun _ _ _ h => h) (fun _ _ => exec_neqI trivial rfl rfl rfl (by simp)) hS ?_
   simp only [Act.put, ap1, ap2, ap3]
   refine wpAnyH_done (by kernel_rfl) ?_ _
   have HSN := Lib.hid (HS.out.below (drew_below wr))
   clear hS
   go_wp2_with fail
   go_roundw
   case rel => exact ⟨j + 1, by go_num, by omega, HSN⟩
   case measure => simp [numI]; omega
  ·go_wp2_with fail
   go_ret
   exact ⟨rfl, HS.out.old⟩
end Go.Proofs.YtnekpgmgnepdoaaGreat
end
