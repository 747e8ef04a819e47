import Derived.Test.YtnekpgmgnepdoaaGreatZar
section
namespace Go.Proofs.YtnekpgmgnepdoaaGreat
open Go.RowKit
theorem box93 (o : En) (w : World) : (Instr.box 93 (.agg o.arr)).run Tryz.prog w = .ok (.pointer (some ⟨w.heap.size, 0, none⟩)) (w.alloc (.cells o.arr 93)) := by
 simp [Instr.box, newVar, newRow, Value.cells, go_sem]
end Go.Proofs.YtnekpgmgnepdoaaGreat
end
section
namespace Go.Proofs.YtnekpgmgnepdoaaGreat
open Go.RowKit
theorem ahead_c {x y : En} (h : ¬ x.c = y.c) : En.aheadB x y = decide (x.c < y.c) := by
 unfold En.aheadB; exact decide_eq_decide.2 (by unfold En.Ahead; omega)
theorem ahead_r {x y : En} (h : x.c = y.c) (hr : ¬ x.r = y.r) : En.aheadB x y = decide (x.r < y.r) := by
 unfold En.aheadB; exact decide_eq_decide.2 (by unfold En.Ahead; omega)
theorem ahead_s {x y : En} (h : x.c = y.c) (hr : x.r = y.r) : En.aheadB x y = decide (x.s < y.s) := by
 unfold En.aheadB; exact decide_eq_decide.2 (by unfold En.Ahead; omega)
theorem eqT {a b : Nat} (h : a = b) : ((a : Int) == (b : Int)) = true := by simp; omega
theorem eqFa {a b : Nat} (h : ¬ a = b) : ((a : Int) == (b : Int)) = false := by simp; omega
set_option maxHeartbeats 1000000 in
theorem ahead_any (x y : En) (w : World) : Calls Tryz.prog 54 #[.agg x.arr, .agg y.arr] w (Says (.bool (En.aheadB x y)) w) := by
 have hb1 := fun (o : En) w => box93 o w
 have HS := Lib.hid (gw_new w 93 x.arr y.arr)
 go_enter Tryz.func54, Tryz.ntmps54
 go_upto_region 1 with fail
 clear hb1
 generalize (w.alloc (.cells x.arr 93)).alloc (.cells y.arr 93) = W at HS
 have c0 := ent0 HS.out.one
 have c4 := ent4 HS.out.one
 have c5 := ent5 HS.out.one
 have d0 := ent0 HS.out.two
 have d4 := ent4 HS.out.two
 have d5 := ent5 HS.out.two
 by_cases hc : x.c = y.c
 ·have q1 := eqB' hc
  by_cases hr : x.r = y.r
  ·have q2 := eqB' hr
   have HE := Lib.hid (ahead_s hc hr)
   clear hc hr
   go_wp2_with fail
   go_ret
   exact ⟨ret_bool HE.out.symm, HS.out.old.below⟩
  ·have q2 := neB hr
   have HE := Lib.hid (ahead_r hc hr)
   clear hc hr
   go_wp2_with fail
   go_ret
   exact ⟨ret_bool HE.out.symm, HS.out.old.below⟩
 ·have q1 := neB hc
  have HE := Lib.hid (ahead_c hc)
  clear hc
  go_wp2_with fail
  go_ret
  exact ⟨ret_bool HE.out.symm, HS.out.old.below⟩
def TickP (l : List La) (c : Nat) (w : World) (e : Ending) (w' : World) : Prop := e = .returned (.tuple #[.int .u32 (((tkOf l c).getD 0 : Nat) : Int), .bool (tkOf l c).isSome]) ∧ Below w.heap.size w w'
set_option maxHeartbeats 1000000 in
theorem tick_any {s : Sta} {a b : Option Addr} {n c m d : Nat} {w : World} (hl : SL w s a n b m) (hm : m < 500000) (x : Nat) : Calls Tryz.prog 66 #[.agg (sv s.v a n c b m d), .int .u16 (x : Int)] w (TickP s.ts x w) := by
 have HL := Lib.hid hl
 have HLEN := Lib.hid hl.ts.len'
 have hb1 := fun (v : V) x y w => box28 v x y w
 have HP0 := Lib.hid (bo_new w 28 (sv s.v a n c b m d))
 clear hl
 go_enter Tryz.func66, Tryz.ntmps66
 go_upto_region 1 with fail
 clear hb1
 generalize w.alloc (.cells (sv s.v a n c b m d) 28) = w0 at HP0
 have c17 := stc17 HP0.out.one
 go_wp2_with fail
 go_loop [6] (fun i => ∃ k : Nat, k ≤ m ∧ i = .int .i64 (k : Int) ∧ Hid (tkOf s.ts x = tkOf (s.ts.drop k) x)) (fun i => m - (intOf i).toNat)
 case atStart => exact ⟨0, Nat.zero_le _, rfl, Lib.hid (by rw [List.drop_zero])⟩
 case round =>
  obtain ⟨k, hk, rfl, HD⟩ := hrel
  by_cases hlt : k < m
  ·obtain ⟨g, off, y, rfl, hy, hr⟩ := LL.at (HL.out.ts.below HP0.out.old) hlt
   have c0 : w0.cell? ⟨g, off + k * 2, none⟩ = some (.int .u16 (y.c : Int)) := by have := hr 0 _ rfl; simpa using this
   have c1 : w0.cell? ⟨g, off + k * 2 + 1, none⟩ = some (.int .u32 (y.t : Int)) := hr 1 _ rfl
   have HY := Lib.hid (drop_at hy)
   clear hy hr
   by_cases hc : y.c = x
   ·have HE : Hid (tkOf s.ts x = some y.t) := Lib.hid (by rw [HD.out, HY.out, tkOf_cons, if_pos hc])
    have q := eqT hc
    clear hc
    go_wp2_with fail
    go_ret2
    exact ⟨by rw [HE.out]; rfl, HP0.out.old⟩
   ·have HE : Hid (tkOf s.ts x = tkOf (s.ts.drop (k + 1)) x) := Lib.hid (by rw [HD.out, HY.out, tkOf_cons, if_neg hc])
    have q := eqFa hc
    clear hc
    go_wp2_with fail
    go_round
    case rel => exact ⟨k + 1, by omega, by go_num, HE⟩
    case measure => simp [intOf]; omega
  ·have HE : Hid (tkOf s.ts x = none) := Lib.hid (by rw [HD.out, List.drop_eq_nil_of_le (by have := HLEN.out; omega)]; rfl)
   go_wp2_with fail
   go_ret2
   exact ⟨by rw [HE.out]; rfl, HP0.out.old⟩
set_option maxRecDepth 100000 in
set_option maxHeartbeats 1000000 in
theorem shaped_any (e : En) (w : World) : Calls Tryz.prog 98 #[.agg e.arr] w (Says (.bool e.shapedB) w) := by
 have hb1 := fun (o : En) w => box93 o w
 have H1 := Lib.hid (bo_new w 93 e.arr)
 have HL : Hid (e.shapedB = decide ((e.k = 1 ∧ 1 ≤ e.q) ∨ e.k = 2 ∨ (e.k = 4 ∧ e.i = 0 ∧ e.q = 0))) := Lib.hid rfl
 generalize e.shapedB = ok at HL ⊢
 go_enter Tryz.func98, Tryz.ntmps98
 go_upto_region 1 with fail
 clear hb1
 generalize w.alloc (.cells e.arr 93) = W at H1
 have c3 := ent3 H1.out.one
 have c2 := ent2 H1.out.one
 have c1 := ent1 H1.out.one
 by_cases k1 : e.k = 1
 ·rw [k1] at c3
  have HE : Hid (ok = decide (1 ≤ e.q)) := Lib.hid (by rw [HL.out, k1]; simp)
  clear k1
  go_wp2_with fail
  go_ret
  exact ⟨ret_bool (by rw [HE.out, Bool.eq_iff_iff]; simp <;> omega), H1.out.old⟩
 ·by_cases k2 : e.k = 2
  ·rw [k2] at c3
   have HE : Hid (ok = true) := Lib.hid (by rw [HL.out, k2]; simp)
   clear k2
   go_wp2_with fail
   go_ret
   exact ⟨ret_bool HE.out.symm, H1.out.old⟩
  ·have q1 : ((e.k : Int) == 1) = false := by rw [beq_eq_false_iff_ne]; omega
   have q2 : ((e.k : Int) == 2) = false := by rw [beq_eq_false_iff_ne]; omega
   by_cases k4 : e.k = 4
   ·rw [k4] at c3
    by_cases hi : e.i = 0
    ·rw [hi] at c1
     have HE : Hid (ok = decide (e.q = 0)) := Lib.hid (by rw [HL.out, k4, hi]; simp)
     clear k4 hi q1 q2
     go_wp2_with fail
     go_ret
     exact ⟨ret_bool (by rw [HE.out, Bool.eq_iff_iff]; simp <;> omega), H1.out.old⟩
    ·have HE : Hid (ok = false) := Lib.hid (by rw [HL.out, k4]; simp [hi])
     have q3 : ((e.i : Int) == 0) = false := by rw [beq_eq_false_iff_ne]; omega
     clear k4 q1 q2
     go_wp2_with fail
     go_ret
     exact ⟨ret_bool HE.out.symm, H1.out.old⟩
   ·have HE : Hid (ok = false) := Lib.hid (by rw [HL.out]; simp [k1, k2, k4])
    have q4 : ((e.k : Int) == 4) = false := by rw [beq_eq_false_iff_ne]; omega
    go_wp2_with fail
    go_ret
    exact ⟨ret_bool HE.out.symm, H1.out.old⟩
def reB (s : Sta) (e : En) : Bool := (tkOf s.ts e.c).isSome && (e.shapedB && (V.hasB s.v e.r e.s && (decide (1 ≤ e.n) && decide (e.n ≤ 16777217))))
structure Rx (W : World) (s : Sta) (e : En) (p q : Nat) (a : Option Addr) (n c : Nat) (b : Option Addr) (m d : Nat) : Prop where
 st : Blk W p 28 (sv s.v a n c b m d)
 en : Blk W q 93 e.arr
theorem Rx.below {W W' : World} {s : Sta} {e : En} {p q : Nat} {a : Option Addr} {n c : Nat} {b : Option Addr} {m d : Nat} (h : Rx W s e p q a n c b m d) (hb : Below W.heap.size W W') : Rx W' s e p q a n c b m d := ⟨h.st.below hb, h.en.below hb⟩
theorem rx_new (w : World) (s : Sta) (e : En) (a : Option Addr) (n c : Nat) (b : Option Addr) (m d : Nat) : Rx ((w.alloc (.cells (sv s.v a n c b m d) 28)).alloc (.cells e.arr 93)) s e w.heap.size (w.heap.size + 1) a n c b m d :=
 ⟨(Blk.new w 28 _).below (below_one _ _), by have := Blk.new (w.alloc (.cells (sv s.v a n c b m d) 28)) 93 e.arr; simpa using this⟩
set_option maxRecDepth 100000 in
set_option maxHeartbeats 2000000 in
theorem re_any {s : Sta} {a b : Option Addr} {n c m d : Nat} {w : World} (hl : SL w s a n b m) (hm : m < 500000) (e : En) : Calls Tryz.prog 53 #[.agg (sv s.v a n c b m d), .agg e.arr] w (Says (.bool (reB s e)) w) := by
 have HL := Lib.hid hl
 have hb1 := fun (v : V) x y w => box28 v x y w
 have hb2 := fun (o : En) w => box93 o w
 have HX := Lib.hid (rx_new w s e a n c b m d)
 have HB := Lib.hid (below_2 w (.cells (sv s.v a n c b m d) 28) (.cells e.arr 93))
 have HER : Hid (reB s e = ((tkOf s.ts e.c).isSome && (e.shapedB && (V.hasB s.v e.r e.s && (decide (1 ≤ e.n) && decide (e.n ≤ 16777217)))))) := Lib.hid rfl
 generalize reB s e = R at HER ⊢
 clear hl
 go_enter Tryz.func53, Tryz.ntmps53
 go_upto_region 1 with fail
 clear hb1 hb2
 generalize (w.alloc (.cells (sv s.v a n c b m d) 28)).alloc (.cells e.arr 93) = w0 at HX HB
 have c0 := ent0 HX.out.en
 have c6 := ent6 HX.out.en
 go_wp2_with (first | (refine wpList_run rfl (exec_load28 rfl rfl HX.out.st) ?_))
 refine (tick_any (HL.out.below HB.out) hm e.c).mono ?_
 rintro _ w1 ⟨rfl, hb⟩
 have HX1 := Lib.hid (HX.out.below hb)
 have HB1 := Lib.hid (HB.out.trans (hb.mono HB.out.size))
 clear hb c0 c6
 generalize (tkOf s.ts e.c).getD 0 = t0
 generalize (tkOf s.ts e.c).isSome = b1 at HER ⊢
 cases b1
 ·have HE : Hid (R = false) := Lib.hid (by rw [HER.out]; rfl)
  go_wp2_with fail
  go_ret
  exact ⟨ret_bool HE.out.symm, HB1.out⟩
 ·go_wp2_with (first | (refine wpList_runW (exec_load93 (p := e) rfl rfl HX1.out.en) (by kernel_rfl) ?_))
  refine (shaped_any e w1).mono ?_
  rintro _ w2 ⟨rfl, hb⟩
  have HX2 := Lib.hid (HX1.out.below hb)
  have HB2 := Lib.hid (HB1.out.trans (hb.mono HB1.out.size))
  clear hb
  generalize e.shapedB = b2 at HER ⊢
  cases b2
  ·have HE : Hid (R = false) := Lib.hid (by rw [HER.out]; rfl)
   go_wp2_with fail
   go_ret
   exact ⟨ret_bool HE.out.symm, HB2.out⟩
  ·go_wp2_with (first | (refine wpList_runW (exec_stV (v := s.v) rfl rfl HX2.out.st) (by kernel_rfl) ?_) | (refine wpList_runW (exec_edot (e := e) rfl rfl HX2.out.en) (by kernel_rfl) ?_))
   refine (rhas_any s.v e.r e.s w2 e.hr e.hs).mono ?_
   rintro _ w3 ⟨rfl, hb⟩
   have HX3 := Lib.hid (HX2.out.below hb)
   have HB3 := Lib.hid (HB2.out.trans (hb.mono HB2.out.size))
   clear hb
   generalize V.hasB s.v e.r e.s = b3 at HER ⊢
   cases b3
   ·have HE : Hid (R = false) := Lib.hid (by rw [HER.out]; rfl)
    go_wp2_with fail
    go_ret
    exact ⟨ret_bool HE.out.symm, HB3.out⟩
   ·have c6 := ent6 HX3.out.en
    by_cases h1 : 1 ≤ e.n
    ·have q1 : decide ((1 : Int) ≤ (e.n : Int)) = true := by simp; omega
     have HE : Hid (R = decide (e.n ≤ 16777217)) := Lib.hid (by rw [HER.out, decide_eq_true h1]; rfl)
     go_wp2_with fail
     go_ret
     exact ⟨ret_bool (by rw [HE.out]; first | rfl | (rw [Bool.eq_iff_iff]; simp <;> omega)), HB3.out⟩
    ·have q1 : decide ((1 : Int) ≤ (e.n : Int)) = false := by simp; omega
     have HE : Hid (R = false) := Lib.hid (by rw [HER.out, decide_eq_false h1]; rfl)
     go_wp2_with fail
     go_ret
     exact ⟨ret_bool HE.out.symm, HB3.out⟩
end Go.Proofs.YtnekpgmgnepdoaaGreat
end
