import Derived.Test.YtnekpgmgnepdoaaGreatZau
import Derived.Test.YtnekpgmgnepdoaaGreatZax
import Derived.Test.YtnekpgmgnepdoaaGreatZbb
import Derived.Test.YtnekpgmgnepdoaaGreatZbc
section
namespace Go.Proofs.YtnekpgmgnepdoaaGreat
namespace En
def laid (e : En) : O := ⟨e.r, e.s, e.k, e.c, e.i, e.q, 0, V.zero, e.hr, e.hs, e.hk, e.hc, e.hi, e.hq, by omega⟩
theorem ends_laid (o : O) (e : En) : O.endsB o e.laid = O.endsB o e.maker := rfl
end En
end Go.Proofs.YtnekpgmgnepdoaaGreat
end
section
namespace Go.Proofs.YtnekpgmgnepdoaaGreat
open Go.RowKit
theorem exec_eqlB {ev : Operand → Value} {o : Oper} {x y : Operand} {u t : TypeId} {a b r : Bool} {w : World} (hu : Tryz.prog.underlying u = some .bool) (ho : o.op = .binOp .eql u x y t) (hx : ev x = .bool a) (hy : ev y = .bool b) (hr : (a == b) = r) : (execOp ev o).run Tryz.prog w = .ok (.value (.bool r)) w := by
 subst hr
 unfold execOp
 simp [ho, hx, hy, eqGuard, binOp, run_equal_bool w u a b hu]
end Go.Proofs.YtnekpgmgnepdoaaGreat
end
section
namespace Go.Proofs.YtnekpgmgnepdoaaGreat
open Go.RowKit
theorem rsum_any (v : V) (w : World) : Calls Tryz.prog 31 #[.agg v.arr] w (Says (.int .u64 (V.sum v : Int)) w) := by
 have hb1 := fun (v : V) (w : World) => box24 v w
 go_enter Tryz.func31, Tryz.ntmps31
 go_wp2_with fail
 clear hb1
 have HO := Lib.hid (below_one w (.cells v.arr 24))
 have HV := Lib.hid (Blk.new w 24 v.arr)
 generalize w.alloc (.cells v.arr 24) = W at HO HV
 go_loop [3, 4] (fun s i => ∃ k m : Nat, k ≤ 16 ∧ i = .int .i64 (k : Int) ∧ s = .int .u64 (m : Int) ∧ m ≤ k * 4294967295 ∧ Hid (V.sumTo v k = m)) (fun _ i => 16 - (intOf i).toNat)
 case atStart => exact ⟨0, 0, by omega, rfl, rfl, by omega, Lib.hid rfl⟩
 case round =>
  obtain ⟨k, m, hk, rfl, rfl, hm, HR⟩ := hrel
  by_cases hlt : k < 16
  ·have c1 : W.cell? ⟨w.heap.size, k, none⟩ = some (.int .u32 (v.at_ k : Int)) := by rw [HV.out.cell, V.arr_at _ hlt]
   have l1 := v.lt k
   have HR2 : Hid (V.sumTo v (k + 1) = m + v.at_ k) := Lib.hid (by rw [V.sumTo, HR.out])
   generalize v.at_ k = x at c1 l1 HR2
   go_wp2_with fail
   go_round
   case rel => exact ⟨k + 1, m + x, by omega, by go_num, by go_num, by omega, HR2⟩
   case measure => simp [intOf]; omega
  ·obtain rfl : k = 16 := by omega
   go_wp2_with fail
   go_ret
   exact ⟨ret_int (by rw [V.sum, HR.out]), HO.out⟩
theorem lays_any (o : O) (w : World) : Calls Tryz.prog 47 #[.agg o.arr] w (Says (.bool o.laysB) w) := by
 have hb1 := fun w => box33 o w
 have HT := Lib.hid (ow_new w o)
 have c2 := oc2 (ow_new w o).one
 have hk := o.hk
 by_cases h1 : o.k = 1
 ·have HE : Hid (o.laysB = true) := Lib.hid (by unfold O.laysB; simp <;> omega)
  rw [h1] at c2
  go_enter Tryz.func47, Tryz.ntmps47
  go_wp2_with fail
  go_ret
  exact ⟨ret_bool HE.out.symm, HT.out.old⟩
 by_cases h2 : o.k = 2
 ·have HE : Hid (o.laysB = true) := Lib.hid (by unfold O.laysB; simp <;> omega)
  rw [h2] at c2
  go_enter Tryz.func47, Tryz.ntmps47
  go_wp2_with fail
  go_ret
  exact ⟨ret_bool HE.out.symm, HT.out.old⟩
 by_cases h4 : o.k = 4
 ·have HE : Hid (o.laysB = true) := Lib.hid (by unfold O.laysB; simp <;> omega)
  rw [h4] at c2
  go_enter Tryz.func47, Tryz.ntmps47
  go_wp2_with fail
  go_ret
  exact ⟨ret_bool HE.out.symm, HT.out.old⟩
 have HE : Hid (o.laysB = false) := Lib.hid (by unfold O.laysB; simp <;> omega)
 have gk1 : ((o.k : Int) == 1) = false := by simp <;> omega
 have gk2 : ((o.k : Int) == 2) = false := by simp <;> omega
 have gk4 : ((o.k : Int) == 4) = false := by simp <;> omega
 go_enter Tryz.func47, Tryz.ntmps47
 go_wp2_with fail
 go_ret
 exact ⟨ret_bool HE.out.symm, HT.out.old⟩
theorem rcount_any (o : O) (w : World) : Calls Tryz.prog 33 #[.agg o.arr] w (Says (.int .u64 (o.count : Int)) w) := by
 have hb1 := fun w => box33 o w
 have HT := Lib.hid (ow_new w o)
 have HS := Lib.hid (fun w => rsum_any o.v w)
 have hl := V.sum_lt o.v
 have HC : Hid (o.count = V.sum o.v + 1) := Lib.hid rfl
 generalize V.sum o.v = x at HS hl HC
 go_enter Tryz.func33, Tryz.ntmps33
 go_wp2_with (refine wpList_run rfl (exec_ctx (p := o) rfl rfl HT.out.one) ?_)
 clear hb1
 generalize w.alloc (.cells o.arr 33) = W at HT
 refine (HS.out _).mono ?_
 rintro e w1 ⟨rfl, hb⟩
 have HT1 := Lib.hid (HT.out.below hb)
 clear hb
 go_wp2_with fail
 go_ret
 exact ⟨ret_int (by rw [HC.out]; omega), HT1.out.old⟩
theorem rends_any (o p : O) (w : World) : Calls Tryz.prog 45 #[.agg o.arr, .agg p.arr] w (Says (.bool (O.endsB o p)) w) := by
 have hb1 := fun (o : O) w => box33 o w
 have HT := Lib.hid (ow2_new w o p)
 have HM := Lib.hid (fun w => lays_any p w)
 have HH := Lib.hid (fun w => rhas_any o.v p.r p.s w p.hr p.hs)
 have HL : Hid (O.endsB o p = decide (p.laysB = true ∧ o.c = p.c ∧ V.hasB o.v p.r p.s = true ∧ (o.k = 5 ∨ ((o.k = 3 ∨ o.k = 2) ∧ p.k ≠ 4 ∧ o.i = p.i)))) := Lib.hid rfl
 have b1 := o.hk
 have b2 := p.hk
 have b3 := o.hc
 have b4 := p.hc
 have b5 := o.hi
 have b6 := p.hi
 go_enter Tryz.func45, Tryz.ntmps45
 go_wp2_with (refine wpList_run rfl (exec_load33 (p := p) rfl rfl HT.out.two) ?_)
 clear hb1
 generalize (w.alloc (.cells o.arr 33)).alloc (.cells p.arr 33) = W at HT
 cases hm : p.laysB
 ·have HE : Hid (O.endsB o p = false) := Lib.hid (by rw [HL.out, hm]; simp)
  rw [hm] at HM
  clear hm
  refine (HM.out _).mono ?_
  rintro e w1 ⟨rfl, hb⟩
  have HT2 := Lib.hid (HT.out.below hb)
  clear hb
  go_wp2_with fail
  go_ret
  exact ⟨ret_bool HE.out.symm, HT2.out.old⟩
 rw [hm] at HM HL
 clear hm
 refine (HM.out _).mono ?_
 rintro e w1 ⟨rfl, hb⟩
 have HT1 := Lib.hid (HT.out.below hb)
 clear hb HT
 have c3 := oc3 HT1.out.one
 have d3 := oc3 HT1.out.two
 by_cases hc : o.c = p.c
 ·have gc : ((o.c : Int) != (p.c : Int)) = false := by simp <;> omega
  go_wp2_with (first | (refine wpList_runW (exec_ctx (p := o) rfl rfl HT1.out.one) (by kernel_rfl) ?_) | (refine wpList_runW (exec_dot (p := p) rfl rfl HT1.out.two) (by kernel_rfl) ?_))
  clear c3 d3
  cases hh : V.hasB o.v p.r p.s
  ·have HE : Hid (O.endsB o p = false) := Lib.hid (by rw [HL.out, hh]; simp)
   rw [hh] at HH
   clear hh
   refine (HH.out _).mono ?_
   rintro e w2 ⟨rfl, hb⟩
   have HT2 := Lib.hid (HT1.out.below hb)
   clear hb
   go_wp2_with fail
   go_ret
   exact ⟨ret_bool HE.out.symm, HT2.out.old⟩
  ·have HL2 : Hid (O.endsB o p = decide (o.k = 5 ∨ ((o.k = 3 ∨ o.k = 2) ∧ p.k ≠ 4 ∧ o.i = p.i))) := Lib.hid (by rw [HL.out, hh]; simp [hc])
   rw [hh] at HH
   clear hh HL
   refine (HH.out _).mono ?_
   rintro e w2 ⟨rfl, hb⟩
   have HT2 := Lib.hid (HT1.out.below hb)
   clear hb HT1
   have c2 := oc2 HT2.out.one
   have d2 := oc2 HT2.out.two
   have c4 := oc4 HT2.out.one
   have d4 := oc4 HT2.out.two
   by_cases k5 : o.k = 5
   ·rw [k5] at c2
    have HE : Hid (O.endsB o p = true) := Lib.hid (by rw [HL2.out]; simp <;> omega)
    go_wp2_with fail
    go_ret
    exact ⟨ret_bool HE.out.symm, HT2.out.old⟩
   by_cases k3 : o.k = 3
   ·rw [k3] at c2
    by_cases e4 : p.k = 4
    ·have HE : Hid (O.endsB o p = false) := Lib.hid (by rw [HL2.out]; simp <;> omega)
     rw [e4] at d2
     go_wp2_with fail
     go_ret
     exact ⟨ret_bool HE.out.symm, HT2.out.old⟩
    ·have HE : Hid (O.endsB o p = decide (o.i = p.i)) := Lib.hid (by rw [HL2.out, Bool.eq_iff_iff]; simp <;> omega)
     have g4 : ((p.k : Int) != 4) = true := by simp <;> omega
     go_wp2_with fail
     go_ret
     exact ⟨ret_bool (by rw [HE.out, Bool.eq_iff_iff]; simp <;> omega), HT2.out.old⟩
   by_cases k2 : o.k = 2
   ·rw [k2] at c2
    by_cases e4 : p.k = 4
    ·have HE : Hid (O.endsB o p = false) := Lib.hid (by rw [HL2.out]; simp <;> omega)
     rw [e4] at d2
     go_wp2_with fail
     go_ret
     exact ⟨ret_bool HE.out.symm, HT2.out.old⟩
    ·have HE : Hid (O.endsB o p = decide (o.i = p.i)) := Lib.hid (by rw [HL2.out, Bool.eq_iff_iff]; simp <;> omega)
     have g4 : ((p.k : Int) != 4) = true := by simp <;> omega
     go_wp2_with fail
     go_ret
     exact ⟨ret_bool (by rw [HE.out, Bool.eq_iff_iff]; simp <;> omega), HT2.out.old⟩
   have HE : Hid (O.endsB o p = false) := Lib.hid (by rw [HL2.out]; simp <;> omega)
   have g5 : ((o.k : Int) == 5) = false := by simp <;> omega
   have g3 : ((o.k : Int) == 3) = false := by simp <;> omega
   have g2 : ((o.k : Int) == 2) = false := by simp <;> omega
   go_wp2_with fail
   go_ret
   exact ⟨ret_bool HE.out.symm, HT2.out.old⟩
 ·have HE : Hid (O.endsB o p = false) := Lib.hid (by rw [HL.out]; simp [hc])
  have gc : ((o.c : Int) != (p.c : Int)) = true := by simp <;> omega
  go_wp2_with fail
  go_ret
  exact ⟨ret_bool HE.out.symm, HT1.out.old⟩
end Go.Proofs.YtnekpgmgnepdoaaGreat
end
section
namespace Go.Proofs.YtnekpgmgnepdoaaGreat
open Go.RowKit
theorem build28 (v : V) (a : Option Addr) (n c : Nat) (b : Option Addr) (m d : Nat) (w : World) : (Instr.build 28 #[(0, .agg v.arr), (1, .slice a n c), (2, .slice b m d)]).run Tryz.prog w = .ok (.agg (sv v a n c b m d)) w := by
 refine run_build w 28 _ _ ?_
 obtain ⟨x0, x1, x2, x3, x4, x5, x6, x7, x8, x9, y0, y1, y2, y3, y4, y5, hv⟩ := sixteen v
 unfold sv stA stC V.arr V.cs
 rw [hv]
 kernel_rfl
section
variable {ev : Operand → Value} {q : Oper} {w : World}
theorem exec_build28 {x y z : Operand} {v : V} {a b : Option Addr} {n c m d : Nat} (ho : q.op = .build 28 #[(0, x), (1, y), (2, z)]) (hx : ev x = .agg v.arr) (hy : ev y = .slice a n c) (hz : ev z = .slice b m d) : (execOp ev q).run Tryz.prog w = .ok (.value (.agg (sv v a n c b m d))) w := by
 have hm : (#[((0 : Nat), x), (1, y), (2, z)]).map (fun (i, x) => (i, ev x)) = #[(0, .agg v.arr), (1, .slice a n c), (2, .slice b m d)] := by simp [hx, hy, hz]
 unfold execOp
 simp only [ho, hm, Sem.run_bind, build28 v a n c b m d w, Result.andThen_ok]
 rfl
end
end Go.Proofs.YtnekpgmgnepdoaaGreat
end
section
namespace Go.Proofs.YtnekpgmgnepdoaaGreat
open Go.RowKit
theorem build_laid (e : En) (w : World) : (Instr.build 33 #[(0, dotV e.r e.s), (1, .int .u8 (e.k : Int)), (2, .int .u16 (e.c : Int)), (3, .int .u16 (e.i : Int)), (4, .int .u16 (e.q : Int))]).run Tryz.prog w = .ok (.agg e.laid.arr) w := by
 refine run_build w 33 _ _ ?_
 unfold O.arr O.cs O.hd En.laid
 kernel_rfl
theorem exec_laid {ev : Operand → Value} {q : Oper} {w : World} {x y z u v : Operand} {e : En} (ho : q.op = .build 33 #[(0, x), (1, y), (2, z), (3, u), (4, v)]) (hx : ev x = dotV e.r e.s) (hy : ev y = .int .u8 (e.k : Int)) (hz : ev z = .int .u16 (e.c : Int)) (hu : ev u = .int .u16 (e.i : Int)) (hv : ev v = .int .u16 (e.q : Int)) : (execOp ev q).run Tryz.prog w = .ok (.value (.agg e.laid.arr)) w := by
 have hm : (#[((0 : Nat), x), (1, y), (2, z), (3, u), (4, v)]).map (fun (i, x) => (i, ev x)) = #[(0, dotV e.r e.s), (1, .int .u8 (e.k : Int)), (2, .int .u16 (e.c : Int)), (3, .int .u16 (e.i : Int)), (4, .int .u16 (e.q : Int))] := by simp [hx, hy, hz, hu, hv]
 unfold execOp
 simp only [ho, hm, Sem.run_bind, build_laid e w, Result.andThen_ok]
 rfl
set_option maxRecDepth 100000 in
set_option maxHeartbeats 1000000 in
theorem laid_any (e : En) (w : World) : Calls Tryz.prog 46 #[.agg e.arr] w (Says (.agg e.laid.arr) w) := by
 obtain ⟨zo, ho⟩ : ∃ z, O.zero = z := ⟨_, rfl⟩
 have HO := Lib.hid ho
 clear ho
 have hb1 := fun (o : En) w => box93 o w
 have H1 : Hid (Blk ((w.alloc (.cells e.arr 93)).alloc (.cells zo.arr 33)) w.heap.size 93 e.arr) := Lib.hid ((Blk.new w 93 e.arr).below (below_one _ _))
 have H2 : Hid (Blk ((w.alloc (.cells e.arr 93)).alloc (.cells zo.arr 33)) (w.heap.size + 1) 33 zo.arr) := Lib.hid (by have := Blk.new (w.alloc (.cells e.arr 93)) 33 zo.arr; simpa using this)
 have HB : Hid (Below w.heap.size w ((w.alloc (.cells e.arr 93)).alloc (.cells zo.arr 33))) := Lib.hid (below_two' _ _ _)
 go_enter Tryz.func46, Tryz.ntmps46
 go_upto_region 1 with (refine wpList_run rfl (exec_alloc33z HO.out rfl) ?_)
 clear hb1
 generalize (w.alloc (.cells e.arr 93)).alloc (.cells zo.arr 33) = W at H1 H2 HB
 have c3 := ent3 H1.out
 have c0 := ent0 H1.out
 have c1 := ent1 H1.out
 have c2 := ent2 H1.out
 go_wp2_with (first | (refine wpList_run rfl (exec_edot (e := e) rfl rfl H1.out) ?_) | (refine wpList_run rfl (exec_laid (e := e) rfl rfl rfl rfl rfl rfl) ?_) | (refine wpList_stop33 rfl ?_))
 refine ⟨?_⟩
 refine wpList_void rfl rfl (exec_store33 (p := zo) (u := e.laid) rfl rfl rfl H2.out) ?_
 go_wp2_with fail
 have k1 := Kept.setRow W (w.heap.size + 1) e.laid.arr
 exact bodyPost_ret (ret33 rfl rfl (H2.out.row (ds := e.laid.arr))) rfl ⟨rfl, HB.out.trans (k1.below HB.out.size (fun k hk => by omega))⟩
theorem exec_bldR {ev : Operand → Value} {q : Oper} {w : World} {x0 x1 x2 x3 x4 x5 : Operand} {e : En} (ho : q.op = .build 93 #[(0, x0), (1, x1), (2, x2), (3, x3), (4, x4), (5, x5)]) (h0 : ev x0 = .int .u16 (e.c : Int)) (h1 : ev x1 = .int .u16 (e.i : Int)) (h2 : ev x2 = .int .u16 (e.q : Int)) (h3 : ev x3 = .int .u8 (e.k : Int)) (h4 : ev x4 = dotV e.r e.s) (h5 : ev x5 = .int .u64 (e.n : Int)) : (execOp ev q).run Tryz.prog w = .ok (.value (.agg e.arr)) w := by
 have hm : (#[((0 : Nat), x0), (1, x1), (2, x2), (3, x3), (4, x4), (5, x5)]).map (fun (i, x) => (i, ev x)) = #[(0, .int .u16 (e.c : Int)), (1, .int .u16 (e.i : Int)), (2, .int .u16 (e.q : Int)), (3, .int .u8 (e.k : Int)), (4, dotV e.r e.s), (5, .int .u64 (e.n : Int))] := by simp [h0, h1, h2, h3, h4, h5]
 have hb : (Instr.build 93 #[(0, .int .u16 (e.c : Int)), (1, .int .u16 (e.i : Int)), (2, .int .u16 (e.q : Int)), (3, .int .u8 (e.k : Int)), (4, dotV e.r e.s), (5, .int .u64 (e.n : Int))]).run Tryz.prog w = .ok (.agg e.arr) w := run_build w 93 _ _ (by kernel_rfl)
 unfold execOp
 simp only [ho, hm, Sem.run_bind, hb, Result.andThen_ok]
 rfl
structure Rx0 (w W : World) (s : Sta) (o : O) (ps po pr : Nat) (a : Option Addr) (n c : Nat) (b : Option Addr) (m d : Nat) (z : V) : Prop where
 st : Blk W ps 28 (sv s.v a n c b m d)
 op : Blk W po 33 o.arr
 res : Blk W pr 28 (sv z none 0 0 none 0 0)
 old : Below w.heap.size w W
theorem Rx0.below {w W W' : World} {s : Sta} {o : O} {ps po pr n c m d : Nat} {a b : Option Addr} {z : V} (h : Rx0 w W s o ps po pr a n c b m d z) (hb : Below W.heap.size W W') : Rx0 w W' s o ps po pr a n c b m d z := ⟨h.st.below hb, h.op.below hb, h.res.below hb, h.old.trans (hb.mono h.old.size)⟩
theorem rx0_new (w : World) (s : Sta) (o : O) (a : Option Addr) (n c : Nat) (b : Option Addr) (m d : Nat) (z : V) : Rx0 w (((w.alloc (.cells (sv s.v a n c b m d) 28)).alloc (.cells o.arr 33)).alloc (.cells (sv z none 0 0 none 0 0) 28)) s o w.heap.size (w.heap.size + 1) (w.heap.size + 1 + 1) a n c b m d z := by
 have h1 := Blk.new w 28 (sv s.v a n c b m d)
 have h2 := Blk.new (w.alloc (.cells (sv s.v a n c b m d) 28)) 33 o.arr
 have h3 := Blk.new ((w.alloc (.cells (sv s.v a n c b m d) 28)).alloc (.cells o.arr 33)) 28 (sv z none 0 0 none 0 0)
 have b2 := below_one (w.alloc (.cells (sv s.v a n c b m d) 28)) (.cells o.arr 33)
 have b3 := below_one ((w.alloc (.cells (sv s.v a n c b m d) 28)).alloc (.cells o.arr 33)) (.cells (sv z none 0 0 none 0 0) 28)
 simp only [World.size_alloc] at h2 h3
 exact ⟨(h1.below b2).below b3, h2.below b3, h3, ((below_one w _).trans (b2.mono (by simp))).trans (b3.mono (by simp; omega))⟩
structure RaB (w W : World) (B : Nat) (s : Sta) (o : O) (u : V) (ps po pr pv : Nat) (a : Option Addr) (n c : Nat) (b : Option Addr) (m d : Nat) (z : V) : Prop where
 st : Blk W ps 28 (sv s.v a n c b m d)
 op : Blk W po 33 o.arr
 res : Blk W pr 28 (sv z none 0 0 none 0 0)
 vec : Blk W pv 24 u.arr
 old : Below w.heap.size w W
 sz : B ≤ W.heap.size
theorem RaB.below {w W W' : World} {B : Nat} {s : Sta} {o : O} {u : V} {ps po pr pv n c m d : Nat} {a b : Option Addr} {z : V} (h : RaB w W B s o u ps po pr pv a n c b m d z) (hb : Below W.heap.size W W') : RaB w W' B s o u ps po pr pv a n c b m d z := ⟨h.st.below hb, h.op.below hb, h.res.below hb, h.vec.below hb, h.old.trans (hb.mono h.old.size), Nat.le_trans h.sz hb.size⟩
structure RaW (w W : World) (B : Nat) (s : Sta) (o : O) (u : V) (ps po pr pv : Nat) (a : Option Addr) (n c : Nat) (b : Option Addr) (m d : Nat) (z : V) (a1 : Option Addr) (n1 c1 : Nat) (out : List En) : Prop extends RaB w W B s o u ps po pr pv a n c b m d z where
 own : OwnG W 93 7 B a1 n1 c1 (cellsE out)
theorem RaW.base {w W : World} {B : Nat} {s : Sta} {o : O} {u : V} {ps po pr pv n c m d : Nat} {a b : Option Addr} {z : V} {a1 : Option Addr} {n1 c1 : Nat} {out : List En} (h : RaW w W B s o u ps po pr pv a n c b m d z a1 n1 c1 out) : RaB w W B s o u ps po pr pv a n c b m d z := h.toRaB
theorem RaW.below {w W W' : World} {B : Nat} {s : Sta} {o : O} {u : V} {ps po pr pv n c m d : Nat} {a b : Option Addr} {z : V} {a1 : Option Addr} {n1 c1 : Nat} {out : List En} (h : RaW w W B s o u ps po pr pv a n c b m d z a1 n1 c1 out) (hb : Below W.heap.size W W') : RaW w W' B s o u ps po pr pv a n c b m d z a1 n1 c1 out := ⟨h.toRaB.below hb, h.own.below hb⟩
theorem RaW.app {w W W' : World} {B : Nat} {s : Sta} {o : O} {u : V} {ps po pr pv n c m d : Nat} {a b : Option Addr} {z : V} {a1 a2 : Option Addr} {n1 c1 c2 : Nat} {out : List En} {e : En} {ob : Obj} (h : RaW w W B s o u ps po pr pv a n c b m d z a1 n1 c1 out) (hp : w.heap.size = ps ∧ ps + 1 = po ∧ po + 1 = pr ∧ pr < pv ∧ pv < B)
  (ho : OwnG W' 93 7 B a2 (n1 + 1) c2 (cellsE out ++ [e.arr.toList])) (hk : Kept (At a1) (W.alloc ob) W') : RaW w W' B s o u ps po pr pv a n c b m d z a2 (n1 + 1) c2 (out ++ [e]) := by
 have hat : ∀ k, At a1 k → B ≤ k := fun k ⟨ad0, had, e⟩ => by rw [e]; exact (h.own.lt ad0 had).1
 have h0 := h.toRaB.below (below_one W ob)
 have hs := hk.size
 rw [World.size_alloc] at hs
 refine ⟨⟨h0.st.kept hk (fun e => by have := hat _ e; omega), h0.op.kept hk (fun e => by have := hat _ e; omega), h0.res.kept hk (fun e => by have := hat _ e; omega), h0.vec.kept hk (fun e => by have := hat _ e; omega), h0.old.trans (hk.below h0.old.size (fun j e => by have := hat j e; omega)), by have := h.sz; omega⟩, ?_⟩
 rw [cellsE_app]
 exact ho
structure RaC (w W : World) (B : Nat) (s : Sta) (o : O) (u : V) (ps po pv : Nat) (a : Option Addr) (n c : Nat) (b : Option Addr) (m d : Nat) : Prop where
 st : Blk W ps 28 (sv s.v a n c b m d)
 op : Blk W po 33 o.arr
 vec : Blk W pv 24 u.arr
 old : Below w.heap.size w W
 sz : B ≤ W.heap.size
theorem RaC.below {w W W' : World} {B : Nat} {s : Sta} {o : O} {u : V} {ps po pv n c m d : Nat} {a b : Option Addr} (h : RaC w W B s o u ps po pv a n c b m d) (hb : Below W.heap.size W W') : RaC w W' B s o u ps po pv a n c b m d := ⟨h.st.below hb, h.op.below hb, h.vec.below hb, h.old.trans (hb.mono h.old.size), Nat.le_trans h.sz hb.size⟩
theorem RaB.c {w W : World} {B : Nat} {s : Sta} {o : O} {u : V} {ps po pr pv n c m d : Nat} {a b : Option Addr} {z : V} (h : RaB w W B s o u ps po pr pv a n c b m d z) : RaC w W B s o u ps po pv a n c b m d := ⟨h.st, h.op, h.vec, h.old, h.sz⟩
theorem leftE_next {l : List En} {o : O} {k : Nat} {x : En} (hx : l[k]? = some x) : leftE (l.take (k + 1)) o = leftE (l.take k) o ++ bif O.endsB o x.maker then [] else [x] := by
 unfold leftE
 rw [List.take_add_one, hx, List.filter_append]
 congr 1
 cases h : O.endsB o x.maker <;> simp [h]
set_option maxRecDepth 100000 in
set_option maxHeartbeats 16000000 in
theorem rapply_any {s : Sta} {a b : Option Addr} {n c m d : Nat} {w : World} (hl : SL w s a n b m) (hn : n < 200000) (hm : m < 200000) (o : O) : Calls Tryz.prog 16 #[.agg (sv s.v a n c b m d), .agg o.arr] w (RStP (appS s o) (appE s o) w) := by
 have HL := Lib.hid hl
 have HES := Lib.hid hl.es.len'
 have HTS := Lib.hid hl.ts.len'
 obtain ⟨z, hz⟩ : ∃ z, V.zero = z := ⟨_, rfl⟩
 have HZ := Lib.hid hz
 have hb1 := fun (v : V) x y w => box28 v x y w
 have hb2 := fun (o : O) w => box33 o w
 have H0 := Lib.hid (rx0_new w s o a n c b m d z)
 have HZE : Hid (∀ er W, appE s o = er → er ≠ 0 → Below w.heap.size w W → RStP (appS s o) (appE s o) w (.returned (.tuple #[.agg (sv z none 0 0 none 0 0), .int .i64 (er : Int)])) W) := Lib.hid (fun er W he h0 hb => by
  have e1 : appS s o = Sta.zero := by unfold appS; rw [if_neg (by rw [he]; exact h0)]
  rw [e1, he]
  exact ⟨none, 0, 0, none, 0, 0, by rw [← hz]; rfl, ⟨GL.nil _ _ _, GL.nil _ _ _⟩, hb⟩)
 clear hl hz
 go_enter Tryz.func16, Tryz.ntmps16
 go_upto_region 1 with (refine wpList_run rfl (exec_alloc28z HZ.out rfl) ?_)
 clear hb1 hb2
 generalize ((w.alloc (.cells (sv s.v a n c b m d) 28)).alloc (.cells o.arr 33)).alloc (.cells (sv z none 0 0 none 0 0) 28) = w0 at H0
 obtain ⟨ps, hps⟩ : ∃ p, w.heap.size = p := ⟨_, rfl⟩
 obtain ⟨po, hpo⟩ : ∃ p, ps + 1 = p := ⟨_, rfl⟩
 obtain ⟨pr, hpr⟩ : ∃ p, po + 1 = p := ⟨_, rfl⟩
 have HPS0 : Hid (w.heap.size = ps ∧ ps + 1 = po ∧ po + 1 = pr) := Lib.hid ⟨hps, hpo, hpr⟩
 have H1 : Hid (Rx0 w w0 s o ps po pr a n c b m d z) := Lib.hid (by have h := H0.out; rw [hps, hpo, hpr] at h; exact h)
 rw [hps, hpo, hpr]
 clear hps hpo hpr H0
 go_wp2_with (refine wpList_run rfl (exec_load28 rfl rfl H1.out.st) ?_)
 refine (rRight_any (HL.out.below H1.out.old) (by omega) (by omega)).mono ?_
 rintro e w1 ⟨r, rfl, hr, hb⟩
 have H2 := Lib.hid (H1.out.below hb)
 clear hb H1
 cases r
 ·have HE2 : Hid (appE s o = 2) := Lib.hid (by unfold appE; rw [if_neg (fun h => by have := hr.2 h; cases this)])
  clear hr
  go_wp2_with (first | (refine wpList_run rfl (exec_zero28 HZ.out rfl) ?_) | (refine wpList_stop28 rfl ?_))
  refine ⟨?_⟩
  refine wpList_void rfl rfl (exec_store28 (u := z) (a := none) (n := 0) (c := 0) (b := none) (m := 0) (d := 0) rfl rfl rfl H2.out.res) ?_
  have hks := Kept.setRow w1 pr (sv z none 0 0 none 0 0)
  have HB3 : Hid (Below w.heap.size w (w1.setRow pr (sv z none 0 0 none 0 0))) := Lib.hid (H2.out.old.trans (hks.below H2.out.old.size (fun k hk => by have := HPS0.out; omega)))
  have HR3 : Hid (Blk (w1.setRow pr (sv z none 0 0 none 0 0)) pr 28 (sv z none 0 0 none 0 0)) := Lib.hid H2.out.res.row
  generalize w1.setRow pr (sv z none 0 0 none 0 0) = w3 at HB3 HR3 hks
  clear hks
  go_wp2_with fail
  exact bodyPost_ret (v := .tuple #[.agg (sv z none 0 0 none 0 0), .int .i64 ((2 : Nat) : Int)]) (ret28_two rfl rfl rfl HR3.out) rfl (HZE.out 2 _ HE2.out (by omega) HB3.out)
 ·have hR : s.Right := hr.1 rfl
  have HR := Lib.hid hR
  have HE2 : Hid (appE s o = O.readyE s.v o) := Lib.hid (by unfold appE; rw [if_pos hR])
  clear hr hR
  go_wp2_with (first | (refine wpList_run rfl (exec_stV (v := s.v) rfl rfl H2.out.st) ?_) | (refine wpList_run rfl (exec_load33 (p := o) rfl rfl H2.out.op) ?_))
  refine (rready_any s.v o _).mono ?_
  rintro e w2 ⟨rfl, hb⟩
  have H3 := Lib.hid (H2.out.below hb)
  clear hb H2
  obtain ⟨er, her⟩ : ∃ er, O.readyE s.v o = er := ⟨_, rfl⟩
  have HER := Lib.hid her
  rw [her] at HE2 ⊢
  clear her
  by_cases h0 : er = 0
  ·subst h0
   have hdo := dotB_lt ((O.right_iff o 16).1 (ready_facts HER.out).1).1
   have hro : o.r < 16 := hdo.1
   clear hdo
   go_wp2_with (first | (refine wpList_run rfl (exec_stV (v := s.v) rfl rfl H3.out.st) ?_) | (refine wpList_alloc24 HZ.out rfl rfl ?_) | (refine wpList_stop rfl ?_))
   refine ⟨?_⟩
   refine wpList_store24 rfl rfl rfl rfl (Blk.new w2 24 z.arr) ?_
   have H5 := Lib.hid (H3.out.below (laid_old w2 z s.v))
   have HV5 := Lib.hid (laid_blk w2 z s.v)
   have HSZ5 : Hid (((w2.alloc (.cells z.arr 24)).setRow w2.heap.size s.v.arr).heap.size = w2.heap.size + 1) := Lib.hid (by simp [World.setRow])
   generalize (w2.alloc (.cells z.arr 24)).setRow w2.heap.size s.v.arr = w4 at H5 HV5 HSZ5
   have HRV : Hid (pr < w2.heap.size) := Lib.hid H3.out.res.lt
   generalize w2.heap.size = pv at HV5 HRV HSZ5
   clear H3
   have c0 := oc0 H5.out.op
   have c1 := oc1 H5.out.op
   go_wp2_with (first | (refine wpList_run rfl (exec_index24 (j := o.r) rfl rfl rfl hro) ?_) | (refine wpList_stopT rfl ?_))
   refine ⟨?_⟩
   refine wpList_void rfl rfl (exec_st22 (n := o.s) rfl rfl rfl HV5.out (by rw [V.arr16]; exact hro)) ?_
   obtain ⟨u, hu⟩ : ∃ u, V.put s.v o.r o.s = u := ⟨_, rfl⟩
   have HU : Hid (u = V.put s.v o.r o.s) := Lib.hid hu.symm
   obtain ⟨B, hB⟩ : ∃ B, pv + 1 = B := ⟨_, rfl⟩
   have HPS : Hid (w.heap.size = ps ∧ ps + 1 = po ∧ po + 1 = pr ∧ pr < pv ∧ pv < B) := Lib.hid (by have := HPS0.out; have := HRV.out; omega)
   have HQ0 : Hid (RaB w (w4.setCell ⟨pv, o.r, none⟩ (.int .u32 (o.s : Int))) B s o u ps po pr pv a n c b m d z) := Lib.hid (by
    have hk := Kept.setCell w4 ⟨pv, o.r, none⟩ (.int .u32 (o.s : Int))
    have hv := HV5.out.set o.r (.int .u32 (o.s : Int))
    rw [V.arr_put s.v hro o.hs, hu] at hv
    have h := H5.out
    refine ⟨h.st.kept hk (by have := HPS.out; simp only; omega), h.op.kept hk (by have := HPS.out; simp only; omega), h.res.kept hk (by have := HPS.out; simp only; omega), hv, h.old.trans (hk.below h.old.size (fun k hk => by have := HPS.out; simp only at hk; omega)), by have := HSZ5.out; simp [World.setCell]; omega⟩)
   clear hu hB HV5 H5 HSZ5 c0 c1 HRV HPS0
   generalize w4.setCell ⟨pv, o.r, none⟩ (.int .u32 (o.s : Int)) = w5 at HQ0
   go_wp2_with fail
   go_loopw [8, 9] (fun lv i wr => ∃ (k n1 c1 : Nat) (a1 : Option Addr) (out : List En), k ≤ n ∧ n1 ≤ k ∧ lv = .slice a1 n1 c1 ∧ i = .int .i64 (k : Int) ∧ Hid (out = leftE (s.es.take k) o) ∧ Hid (RaW w wr B s o u ps po pr pv a n c b m d z a1 n1 c1 out)) (fun _ i _ => n - (intOf i).toNat)
   case atStart => exact ⟨0, 0, 0, none, [], by omega, by omega, rfl, rfl, Lib.hid rfl, Lib.hid ⟨HQ0.out, ownG_nil _ _ _ _⟩⟩
   case round =>
    obtain ⟨k, n1, c1, a1, out, hk, hn1, rfl, rfl, HOUT, HQ⟩ := hrel
    clear HQ0
    have c16 := stc16 HQ.out.st
    by_cases hlt : k < n
    ·obtain ⟨g, off, x, rfl, hx, hrw⟩ := EL.at_base HL.out.es hlt
     have HRW := Lib.hid hrw
     have HNX := Lib.hid (leftE_next (o := o) hx)
     clear hx hrw
     obtain ⟨e, he⟩ : ∃ e, O.endsB o x.maker = e := ⟨_, rfl⟩
     have HE : Hid (∀ W, Calls Tryz.prog 45 #[.agg o.arr, .agg x.laid.arr] W (Says (.bool e) W)) := Lib.hid (fun W => by have := rends_any o x.laid W; rw [En.ends_laid, he] at this; exact this)
     rw [he, ← HOUT.out] at HNX
     clear he HOUT
     cases e
     ·go_wp2_with fail
      refine wp_region_held_drew (S := fun w' => RaW w w' B s o u ps po pr pv (some ⟨g, off, none⟩) n c b m d z a1 n1 c1 out) (by kernel_rfl) (HQ.out.below (drew_below _)) (fun hS => ?_)
      refine held_tk 0 38 (.agg o.arr) rfl rfl (by kernel_rfl) (fun _ _ _ h => h) (fun _ h => exec_load33 (p := o) rfl rfl h.op) hS ?_
      simp only [Act.put, ap1, ap2, ap3]
      refine held_tk 1 39 (.pointer (some ⟨ps, 16, none⟩)) rfl rfl (by kernel_rfl) (fun _ _ _ h => h) (fun _ _ => (by kernel_rfl)) hS ?_
      simp only [Act.put, ap1, ap2, ap3]
      refine held_tk 2 40 (.slice (some ⟨g, off, none⟩) n c) rfl rfl (by kernel_rfl) (fun _ _ _ h => h) (fun _ h => exec_cell rfl rfl (load_cell (by kernel_rfl) (stc16 h.st))) hS ?_
      simp only [Act.put, ap1, ap2, ap3]
      refine held_tk 3 41 (.int .i64 (k : Int)) rfl rfl (by kernel_rfl) (fun _ _ _ h => h) (fun _ _ => rfl) hS ?_
      simp only [Act.put, ap1, ap2, ap3]
      refine held_tk 4 42 (.pointer (some ⟨g, off + k * 7, none⟩)) rfl rfl (by kernel_rfl) (fun _ _ _ h => h) (fun _ _ => exec_idx93 (i := k) rfl rfl rfl rfl hlt) hS ?_
      simp only [Act.put, ap1, ap2, ap3]
      refine held_tk 5 43 (.agg x.arr) rfl rfl (by kernel_rfl) (fun _ _ _ h => h) (fun _ h => exec_ld93 (p := x) rfl rfl (HRW.out _ h.old)) hS ?_
      simp only [Act.put, ap1, ap2, ap3]
      refine held_call 6 44 46 #[(.agg x.arr)] (.agg x.laid.arr) rfl (by kernel_rfl) rfl (by kernel_rfl) (by kernel_rfl) (laid_any x _) (fun _ h hb => h.below hb) hS (fun w106 hS => ?_)
      simp only [Act.put, ap1, ap2, ap3]
      refine held_call 7 45 45 #[(.agg o.arr), (.agg x.laid.arr)] (.bool false) rfl (by kernel_rfl) rfl (by kernel_rfl) (by kernel_rfl) (HE.out _) (fun _ h hb => h.below hb) hS (fun w107 hS => ?_)
      simp only [Act.put, ap1, ap2, ap3]
      refine held_tk 8 46 (.bool true) rfl rfl (by kernel_rfl) (fun _ _ _ h => h) (fun _ _ => rfl) hS ?_
      simp only [Act.put, ap1, ap2, ap3]
      refine wpAnyH_done (by kernel_rfl) ?_ _
      have HS2 := Lib.hid hS
      clear hS c16
      have c16 := stc16 HS2.out.st
      simp only [cond_false] at HNX
      go_wp2_with (first | (refine wpList_run rfl (exec_idx93 (i := k) rfl rfl rfl rfl hlt) ?_) | (refine wpList_run rfl (exec_ld93 (p := x) rfl rfl (HRW.out _ HS2.out.old)) ?_) | (refine wpList_run rfl (exec_bs93 (p := x) rfl rfl) ?_) | (at_builtin; refine wpList_appendG 25 93 7 24 info93 und25 rfl (by decide) (by decide) rfl rfl rfl rfl (HS2.out.own.below (below_one w107 _)) (Blk.new w107 93 x.arr) x.arr_size (by simpa using x.one_cs) (by omega) (by have := HS2.out.sz; simp; omega) ?_; intro a4 c4 w4 ho hk hl3; have HS4 := Lib.hid (HS2.out.app (e := x) HPS.out ho hk); clear ho hk hl3))
      go_roundw
      case rel => exact ⟨k + 1, n1 + 1, c4, a4, out ++ [x], hlt, by omega, rfl, by go_num, Lib.hid HNX.out.symm, HS4⟩
      case measure => simp [intOf]; omega
     ·go_wp2_with fail
      refine wp_region_held_drew (S := fun w' => RaW w w' B s o u ps po pr pv (some ⟨g, off, none⟩) n c b m d z a1 n1 c1 out) (by kernel_rfl) (HQ.out.below (drew_below _)) (fun hS => ?_)
      refine held_tk 0 38 (.agg o.arr) rfl rfl (by kernel_rfl) (fun _ _ _ h => h) (fun _ h => exec_load33 (p := o) rfl rfl h.op) hS ?_
      simp only [Act.put, ap1, ap2, ap3]
      refine held_tk 1 39 (.pointer (some ⟨ps, 16, none⟩)) rfl rfl (by kernel_rfl) (fun _ _ _ h => h) (fun _ _ => (by kernel_rfl)) hS ?_
      simp only [Act.put, ap1, ap2, ap3]
      refine held_tk 2 40 (.slice (some ⟨g, off, none⟩) n c) rfl rfl (by kernel_rfl) (fun _ _ _ h => h) (fun _ h => exec_cell rfl rfl (load_cell (by kernel_rfl) (stc16 h.st))) hS ?_
      simp only [Act.put, ap1, ap2, ap3]
      refine held_tk 3 41 (.int .i64 (k : Int)) rfl rfl (by kernel_rfl) (fun _ _ _ h => h) (fun _ _ => rfl) hS ?_
      simp only [Act.put, ap1, ap2, ap3]
      refine held_tk 4 42 (.pointer (some ⟨g, off + k * 7, none⟩)) rfl rfl (by kernel_rfl) (fun _ _ _ h => h) (fun _ _ => exec_idx93 (i := k) rfl rfl rfl rfl hlt) hS ?_
      simp only [Act.put, ap1, ap2, ap3]
      refine held_tk 5 43 (.agg x.arr) rfl rfl (by kernel_rfl) (fun _ _ _ h => h) (fun _ h => exec_ld93 (p := x) rfl rfl (HRW.out _ h.old)) hS ?_
      simp only [Act.put, ap1, ap2, ap3]
      refine held_call 6 44 46 #[(.agg x.arr)] (.agg x.laid.arr) rfl (by kernel_rfl) rfl (by kernel_rfl) (by kernel_rfl) (laid_any x _) (fun _ h hb => h.below hb) hS (fun w106 hS => ?_)
      simp only [Act.put, ap1, ap2, ap3]
      refine held_call 7 45 45 #[(.agg o.arr), (.agg x.laid.arr)] (.bool true) rfl (by kernel_rfl) rfl (by kernel_rfl) (by kernel_rfl) (HE.out _) (fun _ h hb => h.below hb) hS (fun w107 hS => ?_)
      simp only [Act.put, ap1, ap2, ap3]
      refine held_tk 8 46 (.bool false) rfl rfl (by kernel_rfl) (fun _ _ _ h => h) (fun _ _ => rfl) hS ?_
      simp only [Act.put, ap1, ap2, ap3]
      refine wpAnyH_done (by kernel_rfl) ?_ _
      have HS2 := Lib.hid hS
      clear hS
      simp only [cond_true, List.append_nil] at HNX
      go_wp2_with fail
      go_roundw
      case rel => exact ⟨k + 1, n1, c1, a1, out, hlt, by omega, rfl, by go_num, Lib.hid HNX.out.symm, HS2⟩
      case measure => simp [intOf]; omega
    ·have HOU : Hid (out = leftE s.es o) := Lib.hid (by rw [HOUT.out, List.take_of_length_le (by rw [HES.out]; omega)])
     have HOUe := HOU.out
     subst HOUe
     have HQ1 := HQ
     go_wp2_with (refine wpList_run rfl (exec_load33 (p := o) rfl rfl HQ.out.op) ?_)
     refine (lays_any o wr).mono ?_
     rintro _ w2 ⟨rfl, hb⟩
     have HQ := Lib.hid (HQ1.out.below hb)
     clear hb HQ1 HOUT HOU c16
     obtain ⟨ly, hly⟩ : ∃ ly, o.laysB = ly := ⟨_, rfl⟩
     have HLY := Lib.hid hly
     rw [hly]
     clear hly
     cases ly
     ·have HQ8 := Lib.hid HQ.out.base
      have HO8 : Hid (OwnG w2 93 7 B a1 n1 c1 (cellsE (applyE s.es o))) := Lib.hid (by unfold applyE; rw [if_neg (by rw [HLY.out]; simp)]; exact HQ.out.own)
      clear HQ
      obtain ⟨n8, hn8⟩ : ∃ n8, n1 = n8 := ⟨_, rfl⟩
      rw [hn8] at HO8 ⊢
      clear hn8
      go_wp2_with fail
      refine wp_region_held_drew (S := fun w' => RaC w w' B s o u ps po pv a n c b m d) (by kernel_rfl) (HQ8.out.c.below (drew_below _)) (fun hS => ?_)
      refine held_tk 0 72 (.agg u.arr) rfl rfl (by kernel_rfl) (fun _ _ _ h => h) (fun _ h => exec_load24 (v := u) rfl rfl h.vec) hS ?_
      simp only [Act.put, ap1, ap2, ap3]
      refine held_tk 1 73 (.slice a1 n8 c1) rfl rfl (by kernel_rfl) (fun _ _ _ h => h) (fun _ _ => rfl) hS ?_
      simp only [Act.put, ap1, ap2, ap3]
      refine held_tk 2 74 (.pointer (some ⟨ps, 17, none⟩)) rfl rfl (by kernel_rfl) (fun _ _ _ h => h) (fun _ _ => (by kernel_rfl)) hS ?_
      simp only [Act.put, ap1, ap2, ap3]
      refine held_tk 3 75 (.slice b m d) rfl rfl (by kernel_rfl) (fun _ _ _ h => h) (fun _ h => exec_cell rfl rfl (load_cell (by kernel_rfl) (stc17 h.st))) hS ?_
      simp only [Act.put, ap1, ap2, ap3]
      refine held_tk 4 76 (.pointer (some ⟨po, 3, none⟩)) rfl rfl (by kernel_rfl) (fun _ _ _ h => h) (fun _ _ => (by kernel_rfl)) hS ?_
      simp only [Act.put, ap1, ap2, ap3]
      refine held_tk 5 77 (.int .u16 (o.c : Int)) rfl rfl (by kernel_rfl) (fun _ _ _ h => h) (fun _ h => exec_cell rfl rfl (load_cell (by kernel_rfl) (oc3 h.op))) hS ?_
      simp only [Act.put, ap1, ap2, ap3]
      refine held_tk 6 78 (.pointer (some ⟨po, 6, none⟩)) rfl rfl (by kernel_rfl) (fun _ _ _ h => h) (fun _ _ => (by kernel_rfl)) hS ?_
      simp only [Act.put, ap1, ap2, ap3]
      refine held_tk 7 79 (.int .u32 (o.t : Int)) rfl rfl (by kernel_rfl) (fun _ _ _ h => h) (fun _ h => exec_cell rfl rfl (load_cell (by kernel_rfl) (oc6 h.op))) hS ?_
      simp only [Act.put, ap1, ap2, ap3]
      refine held_callP 8 80 49 #[.slice b m d, .int .u16 (o.c : Int), .int .u32 (o.t : Int)] rfl (by kernel_rfl) rfl (by kernel_rfl) (by kernel_rfl) (ticked_any (HL.out.ts.below hS.old) (by omega) HR.out.ts.up (tickO o)) (fun e w6 hP => ?_)
      obtain ⟨a6, c6, rfl, ho6, hb6⟩ := hP
      refine ⟨_, rfl, hS.below hb6, fun hS => ?_⟩
      simp only [Act.put, ap1, ap2, ap3]
      have HB6 := Lib.hid hS.old
      have HO6 : Hid (OwnG w6 95 2 B a6 (cellsL (ticked (tickO o) s.ts)).length c6 (cellsL (ticked (tickO o) s.ts))) := Lib.hid (ho6.mono HQ8.out.sz)
      have HO5 := Lib.hid ((HO8.out.below (drew_below _)).below hb6)
      have HRES : Hid (Blk w6 pr 28 (sv z none 0 0 none 0 0)) := Lib.hid ((HQ8.out.res.below (drew_below _)).below hb6)
      clear ho6 hb6
      refine held_tk 9 81 (.agg (sv u a1 n8 c1 a6 (cellsL (ticked (tickO o) s.ts)).length c6)) rfl rfl (by kernel_rfl) (fun _ _ _ h => h) (fun _ _ => exec_build28 rfl rfl rfl rfl) hS ?_
      simp only [Act.put, ap1, ap2, ap3]
      have hks := Kept.setRow w6 pr (sv u a1 n8 c1 a6 (cellsL (ticked (tickO o) s.ts)).length c6)
      have hS7 : RaC w (w6.setRow pr (sv u a1 n8 c1 a6 (cellsL (ticked (tickO o) s.ts)).length c6)) B s o u ps po pv a n c b m d := ⟨hS.st.kept hks (by have := HPS.out; omega), hS.op.kept hks (by have := HPS.out; omega), hS.vec.kept hks (by have := HPS.out; omega), hS.old.trans (hks.below hS.old.size (fun k hk => by have := HPS.out; omega)), Nat.le_trans hS.sz hks.size⟩
      refine held_void 10 rfl rfl (by kernel_rfl) (by kernel_rfl) (exec_store28 rfl rfl rfl HRES.out) hS7 ?_
      have HF : Hid (RStP (appS s o) (appE s o) w (.returned (.tuple #[.agg (sv u a1 n8 c1 a6 (cellsL (ticked (tickO o) s.ts)).length c6), .int .i64 0])) (w6.setRow pr (sv u a1 n8 c1 a6 (cellsL (ticked (tickO o) s.ts)).length c6))) := Lib.hid (by
       have e1 : appS s o = applyS s o := by unfold appS; rw [if_pos HE2.out]
       rw [e1, HE2.out]
       exact ⟨a1, n8, c1, a6, _, c6, by rw [show (applyS s o).v = u from HU.out.symm]; rfl, ⟨(HO5.out.keep hks (fun ad e h => by have := (HO5.out.lt ad e).1; have := HPS.out; omega)).gl, (HO6.out.keep hks (fun ad e h => by have := (HO6.out.lt ad e).1; have := HPS.out; omega)).gl⟩, hS7.old⟩)
      have HRB : Hid (Blk (w6.setRow pr (sv u a1 n8 c1 a6 (cellsL (ticked (tickO o) s.ts)).length c6)) pr 28 (sv u a1 n8 c1 a6 (cellsL (ticked (tickO o) s.ts)).length c6)) := Lib.hid HRES.out.row
      have HSX := Lib.hid hS7
      clear hS7 hS
      generalize w6.setRow pr (sv u a1 n8 c1 a6 (cellsL (ticked (tickO o) s.ts)).length c6) = w7 at HF HRB hks HSX
      clear hks
      refine held_tk 11 5 (.int .i64 0) rfl rfl (by kernel_rfl) (fun _ _ _ h => h) (fun _ _ => rfl) HSX.out ?_
      simp only [Act.put, ap1, ap2, ap3]
      refine wpAnyH_done (by kernel_rfl) ?_ _
      go_wp2_with fail
      exact bodyPost_ret (v := .tuple #[.agg (sv u a1 n8 c1 a6 (cellsL (ticked (tickO o) s.ts)).length c6), .int .i64 0]) (ret28_two rfl rfl rfl HRB.out) rfl HF.out
     ·have hlen := HQ.out.own.len
      go_wp2_with fail
      refine wp_region_held_drew (S := fun w' => RaW w w' B s o u ps po pr pv a n c b m d z a1 n1 c1 (leftE s.es o)) (by kernel_rfl) (HQ.out.below (drew_below _)) (fun hS => ?_)
      refine held_tk 0 57 (.slice a1 n1 c1) rfl rfl (by kernel_rfl) (fun _ _ _ h => h) (fun _ _ => rfl) hS ?_
      simp only [Act.put, ap1, ap2, ap3]
      refine held_tk 1 58 (.pointer (some ⟨po, 3, none⟩)) rfl rfl (by kernel_rfl) (fun _ _ _ h => h) (fun _ _ => (by kernel_rfl)) hS ?_
      simp only [Act.put, ap1, ap2, ap3]
      refine held_tk 2 59 (.int .u16 (o.c : Int)) rfl rfl (by kernel_rfl) (fun _ _ _ h => h) (fun _ h => exec_cell rfl rfl (load_cell (by kernel_rfl) (oc3 h.op))) hS ?_
      simp only [Act.put, ap1, ap2, ap3]
      refine held_tk 3 60 (.pointer (some ⟨po, 4, none⟩)) rfl rfl (by kernel_rfl) (fun _ _ _ h => h) (fun _ _ => (by kernel_rfl)) hS ?_
      simp only [Act.put, ap1, ap2, ap3]
      refine held_tk 4 61 (.int .u16 (o.i : Int)) rfl rfl (by kernel_rfl) (fun _ _ _ h => h) (fun _ h => exec_cell rfl rfl (load_cell (by kernel_rfl) (oc4 h.op))) hS ?_
      simp only [Act.put, ap1, ap2, ap3]
      refine held_tk 5 62 (.pointer (some ⟨po, 5, none⟩)) rfl rfl (by kernel_rfl) (fun _ _ _ h => h) (fun _ _ => (by kernel_rfl)) hS ?_
      simp only [Act.put, ap1, ap2, ap3]
      refine held_tk 6 63 (.int .u16 (o.q : Int)) rfl rfl (by kernel_rfl) (fun _ _ _ h => h) (fun _ h => exec_cell rfl rfl (load_cell (by kernel_rfl) (oc5 h.op))) hS ?_
      simp only [Act.put, ap1, ap2, ap3]
      refine held_tk 7 64 (.pointer (some ⟨po, 2, none⟩)) rfl rfl (by kernel_rfl) (fun _ _ _ h => h) (fun _ _ => (by kernel_rfl)) hS ?_
      simp only [Act.put, ap1, ap2, ap3]
      refine held_tk 8 65 (.int .u8 (o.k : Int)) rfl rfl (by kernel_rfl) (fun _ _ _ h => h) (fun _ h => exec_cell rfl rfl (load_cell (by kernel_rfl) (oc2 h.op))) hS ?_
      simp only [Act.put, ap1, ap2, ap3]
      refine held_tk 9 66 (.pointer (some ⟨po, 0, none⟩)) rfl rfl (by kernel_rfl) (fun _ _ _ h => h) (fun _ _ => (by kernel_rfl)) hS ?_
      simp only [Act.put, ap1, ap2, ap3]
      refine held_tk 10 67 (dotV o.r o.s) rfl rfl (by kernel_rfl) (fun _ _ _ h => h) (fun _ h => exec_dot (p := o) rfl rfl h.op) hS ?_
      simp only [Act.put, ap1, ap2, ap3]
      refine held_tk 11 68 (.agg o.arr) rfl rfl (by kernel_rfl) (fun _ _ _ h => h) (fun _ h => exec_load33 (p := o) rfl rfl h.op) hS ?_
      simp only [Act.put, ap1, ap2, ap3]
      refine held_callP 12 69 33 #[(.agg o.arr)] rfl (by kernel_rfl) rfl (by kernel_rfl) (by kernel_rfl) (rcount_any o _) (fun e w112 hP => ?_)
      obtain ⟨rfl, hb12⟩ := hP
      refine ⟨_, rfl, hS.below hb12, fun hS => ?_⟩
      have HZ1 := Lib.hid hS.sz
      clear hb12
      simp only [Act.put, ap1, ap2, ap3]
      refine held_tk 13 70 (.agg (En.made o).arr) rfl rfl (by kernel_rfl) (fun _ _ _ h => h) (fun _ _ => exec_bldR (e := En.made o) rfl rfl rfl rfl rfl rfl rfl) hS ?_
      simp only [Act.put, ap1, ap2, ap3]
      refine held_callP 14 71 48 #[(.slice a1 n1 c1), (.agg (En.made o).arr)] rfl (by kernel_rfl) rfl (by kernel_rfl) (by kernel_rfl) (put_any hS.own.gl (by omega) (En.made o)) (fun e w114 hP => ?_)
      obtain ⟨ga14, ca14, rfl, ho14, hb14⟩ := hP
      refine ⟨_, rfl, hS.below hb14, fun hS => ?_⟩
      have KE7 := Lib.hid (ho14.mono HZ1.out)
      clear hb14 ho14
      simp only [Act.put, ap1, ap2, ap3]
      refine held_tk 15 8 (.slice ga14 (cellsE (putE (En.made o) (leftE s.es o))).length ca14) rfl rfl (by kernel_rfl) (fun _ _ _ h => h) (fun _ _ => rfl) hS ?_
      simp only [Act.put, ap1, ap2, ap3]
      refine wpAnyH_done (by kernel_rfl) ?_ _
      have HQ8 := Lib.hid hS.base
      have HO8 : Hid (OwnG _ 93 7 B ga14 (cellsE (putE (En.made o) (leftE s.es o))).length ca14 (cellsE (applyE s.es o))) := Lib.hid (by unfold applyE; rw [if_pos HLY.out]; exact KE7.out)
      clear HQ KE7 hS
      generalize (cellsE (putE (En.made o) (leftE s.es o))).length = n8 at HO8 ⊢
      go_wp2_with fail
      refine wp_region_held_drew (S := fun w' => RaC w w' B s o u ps po pv a n c b m d) (by kernel_rfl) (HQ8.out.c.below (drew_below _)) (fun hS => ?_)
      refine held_tk 0 72 (.agg u.arr) rfl rfl (by kernel_rfl) (fun _ _ _ h => h) (fun _ h => exec_load24 (v := u) rfl rfl h.vec) hS ?_
      simp only [Act.put, ap1, ap2, ap3]
      refine held_tk 1 73 (.slice ga14 n8 ca14) rfl rfl (by kernel_rfl) (fun _ _ _ h => h) (fun _ _ => rfl) hS ?_
      simp only [Act.put, ap1, ap2, ap3]
      refine held_tk 2 74 (.pointer (some ⟨ps, 17, none⟩)) rfl rfl (by kernel_rfl) (fun _ _ _ h => h) (fun _ _ => (by kernel_rfl)) hS ?_
      simp only [Act.put, ap1, ap2, ap3]
      refine held_tk 3 75 (.slice b m d) rfl rfl (by kernel_rfl) (fun _ _ _ h => h) (fun _ h => exec_cell rfl rfl (load_cell (by kernel_rfl) (stc17 h.st))) hS ?_
      simp only [Act.put, ap1, ap2, ap3]
      refine held_tk 4 76 (.pointer (some ⟨po, 3, none⟩)) rfl rfl (by kernel_rfl) (fun _ _ _ h => h) (fun _ _ => (by kernel_rfl)) hS ?_
      simp only [Act.put, ap1, ap2, ap3]
      refine held_tk 5 77 (.int .u16 (o.c : Int)) rfl rfl (by kernel_rfl) (fun _ _ _ h => h) (fun _ h => exec_cell rfl rfl (load_cell (by kernel_rfl) (oc3 h.op))) hS ?_
      simp only [Act.put, ap1, ap2, ap3]
      refine held_tk 6 78 (.pointer (some ⟨po, 6, none⟩)) rfl rfl (by kernel_rfl) (fun _ _ _ h => h) (fun _ _ => (by kernel_rfl)) hS ?_
      simp only [Act.put, ap1, ap2, ap3]
      refine held_tk 7 79 (.int .u32 (o.t : Int)) rfl rfl (by kernel_rfl) (fun _ _ _ h => h) (fun _ h => exec_cell rfl rfl (load_cell (by kernel_rfl) (oc6 h.op))) hS ?_
      simp only [Act.put, ap1, ap2, ap3]
      refine held_callP 8 80 49 #[.slice b m d, .int .u16 (o.c : Int), .int .u32 (o.t : Int)] rfl (by kernel_rfl) rfl (by kernel_rfl) (by kernel_rfl) (ticked_any (HL.out.ts.below hS.old) (by omega) HR.out.ts.up (tickO o)) (fun e w6 hP => ?_)
      obtain ⟨a6, c6, rfl, ho6, hb6⟩ := hP
      refine ⟨_, rfl, hS.below hb6, fun hS => ?_⟩
      simp only [Act.put, ap1, ap2, ap3]
      have HB6 := Lib.hid hS.old
      have HO6 : Hid (OwnG w6 95 2 B a6 (cellsL (ticked (tickO o) s.ts)).length c6 (cellsL (ticked (tickO o) s.ts))) := Lib.hid (ho6.mono HQ8.out.sz)
      have HO5 := Lib.hid ((HO8.out.below (drew_below _)).below hb6)
      have HRES : Hid (Blk w6 pr 28 (sv z none 0 0 none 0 0)) := Lib.hid ((HQ8.out.res.below (drew_below _)).below hb6)
      clear ho6 hb6
      refine held_tk 9 81 (.agg (sv u ga14 n8 ca14 a6 (cellsL (ticked (tickO o) s.ts)).length c6)) rfl rfl (by kernel_rfl) (fun _ _ _ h => h) (fun _ _ => exec_build28 rfl rfl rfl rfl) hS ?_
      simp only [Act.put, ap1, ap2, ap3]
      have hks := Kept.setRow w6 pr (sv u ga14 n8 ca14 a6 (cellsL (ticked (tickO o) s.ts)).length c6)
      have hS7 : RaC w (w6.setRow pr (sv u ga14 n8 ca14 a6 (cellsL (ticked (tickO o) s.ts)).length c6)) B s o u ps po pv a n c b m d := ⟨hS.st.kept hks (by have := HPS.out; omega), hS.op.kept hks (by have := HPS.out; omega), hS.vec.kept hks (by have := HPS.out; omega), hS.old.trans (hks.below hS.old.size (fun k hk => by have := HPS.out; omega)), Nat.le_trans hS.sz hks.size⟩
      refine held_void 10 rfl rfl (by kernel_rfl) (by kernel_rfl) (exec_store28 rfl rfl rfl HRES.out) hS7 ?_
      have HF : Hid (RStP (appS s o) (appE s o) w (.returned (.tuple #[.agg (sv u ga14 n8 ca14 a6 (cellsL (ticked (tickO o) s.ts)).length c6), .int .i64 0])) (w6.setRow pr (sv u ga14 n8 ca14 a6 (cellsL (ticked (tickO o) s.ts)).length c6))) := Lib.hid (by
       have e1 : appS s o = applyS s o := by unfold appS; rw [if_pos HE2.out]
       rw [e1, HE2.out]
       exact ⟨ga14, n8, ca14, a6, _, c6, by rw [show (applyS s o).v = u from HU.out.symm]; rfl, ⟨(HO5.out.keep hks (fun ad e h => by have := (HO5.out.lt ad e).1; have := HPS.out; omega)).gl, (HO6.out.keep hks (fun ad e h => by have := (HO6.out.lt ad e).1; have := HPS.out; omega)).gl⟩, hS7.old⟩)
      have HRB : Hid (Blk (w6.setRow pr (sv u ga14 n8 ca14 a6 (cellsL (ticked (tickO o) s.ts)).length c6)) pr 28 (sv u ga14 n8 ca14 a6 (cellsL (ticked (tickO o) s.ts)).length c6)) := Lib.hid HRES.out.row
      have HSX := Lib.hid hS7
      clear hS7 hS
      generalize w6.setRow pr (sv u ga14 n8 ca14 a6 (cellsL (ticked (tickO o) s.ts)).length c6) = w7 at HF HRB hks HSX
      clear hks
      refine held_tk 11 5 (.int .i64 0) rfl rfl (by kernel_rfl) (fun _ _ _ h => h) (fun _ _ => rfl) HSX.out ?_
      simp only [Act.put, ap1, ap2, ap3]
      refine wpAnyH_done (by kernel_rfl) ?_ _
      go_wp2_with fail
      exact bodyPost_ret (v := .tuple #[.agg (sv u ga14 n8 ca14 a6 (cellsL (ticked (tickO o) s.ts)).length c6), .int .i64 0]) (ret28_two rfl rfl rfl HRB.out) rfl HF.out
  ·have hne : ((er : Int) != 0) = true := by simp [h0]
   go_wp2_with (first | (refine wpList_run rfl (exec_zero28 HZ.out rfl) ?_) | (refine wpList_stop28 rfl ?_))
   refine ⟨?_⟩
   refine wpList_void rfl rfl (exec_store28 (u := z) (a := none) (n := 0) (c := 0) (b := none) (m := 0) (d := 0) rfl rfl rfl H3.out.res) ?_
   have hks := Kept.setRow w2 pr (sv z none 0 0 none 0 0)
   have HB3 : Hid (Below w.heap.size w (w2.setRow pr (sv z none 0 0 none 0 0))) := Lib.hid (H3.out.old.trans (hks.below H3.out.old.size (fun k hk => by have := HPS0.out; omega)))
   have HR3 : Hid (Blk (w2.setRow pr (sv z none 0 0 none 0 0)) pr 28 (sv z none 0 0 none 0 0)) := Lib.hid H3.out.res.row
   generalize w2.setRow pr (sv z none 0 0 none 0 0) = w3 at HB3 HR3 hks
   clear hks
   go_wp2_with fail
   exact bodyPost_ret (v := .tuple #[.agg (sv z none 0 0 none 0 0), .int .i64 (er : Int)]) (ret28_two rfl rfl rfl HR3.out) rfl (HZE.out er _ HE2.out h0 HB3.out)
end Go.Proofs.YtnekpgmgnepdoaaGreat
end
section
namespace Go.Proofs.YtnekpgmgnepdoaaGreat
open Go.ChangeShapes Go.WideShapes Go.ChangeAt Go.RowKit Go.Joins
set_option maxRecDepth 100000 in
theorem okWide_op {W : World} {r : Reach} {b : Nat} {v : Value} (h : Value.okWide Tryz.prog W r b 33 v) : ∃ cs, v = .agg cs ∧ cs.size = 23 := by
 simp only [Value.okWide, Tryz.underlying33] at h
 obtain ⟨cs, h1, h2, _⟩ := h
 exact ⟨cs, h1, h2.trans cells33'⟩
section
variable {H : Type} {enc : TypeId × Value → H} {W : World}
set_option maxRecDepth 100000 in
theorem op_of {r : Reach} {b : Nat} {v : Value} {d : DataW H} {p : List MemPlace} (hv : Value.okWide Tryz.prog W r b 33 v)
  (h : DataW.Trod enc Tryz.prog W 0 (fun _ => true) true 33 v d p) : ∃ a : O, v = .agg a.arr := by
 obtain ⟨cs, rfl, hs⟩ := okWide_op hv
 obtain ⟨fuel, hf0⟩ := h
 obtain ⟨ys, n, _, _, hlen, hyl, hf⟩ := DataW.trod_struct Tryz.underlying33 hf0
 obtain ⟨l, rfl⟩ : ∃ l : List Value, cs = l.toArray := ⟨cs.toList, by simp⟩
 have hl : l.length = 23 := by simpa using hs
 have hyl2 : ys.length = 7 := hyl
 clear hf0 hlen hyl hs hv
 match l, hl, ys, hyl2 with
 | [c0, c1, c2, c3, c4, c5, c6, c7, c8, c9, c10, c11, c12, c13, c14, c15, c16, c17, c18, c19, c20, c21, c22], _, [y0, y1, y2, y3, y4, y5, y6], _ =>
  have h0 : DataW.trod enc Tryz.prog W 0 (fun _ => true) true n 30 [c0, c1] = some y0 := by
   have := hf 0 _ rfl
   simpa [cells30', Value.cells] using this
  have h1 : DataW.trod enc Tryz.prog W 0 (fun _ => true) true n 5 [c2] = some y1 := by
   have := hf 1 _ rfl
   simpa [cells5', Value.cells] using this
  have h2 : DataW.trod enc Tryz.prog W 0 (fun _ => true) true n 31 [c3] = some y2 := by
   have := hf 2 _ rfl
   simpa [cells31', Value.cells] using this
  have h3 : DataW.trod enc Tryz.prog W 0 (fun _ => true) true n 31 [c4] = some y3 := by
   have := hf 3 _ rfl
   simpa [cells31', Value.cells] using this
  have h4 : DataW.trod enc Tryz.prog W 0 (fun _ => true) true n 31 [c5] = some y4 := by
   have := hf 4 _ rfl
   simpa [cells31', Value.cells] using this
  have h5 : DataW.trod enc Tryz.prog W 0 (fun _ => true) true n 22 [c6] = some y5 := by
   have := hf 5 _ rfl
   simpa [cells22', Value.cells] using this
  have h6 : DataW.trod enc Tryz.prog W 0 (fun _ => true) true n 24 [c7, c8, c9, c10, c11, c12, c13, c14, c15, c16, c17, c18, c19, c20, c21, c22] = some y6 := by
   have := hf 6 _ rfl
   simpa [cells24', Value.cells] using this
  obtain ⟨x0, x1, l0, l1, rfl, rfl⟩ := dot_cells h0
  obtain ⟨x2, l2, rfl⟩ := u8_cell h1
  obtain ⟨x3, l3, rfl⟩ := u16_cell h2
  obtain ⟨x4, l4, rfl⟩ := u16_cell h3
  obtain ⟨x5, l5, rfl⟩ := u16_cell h4
  obtain ⟨x6, l6, rfl⟩ := u32_cell h5
  obtain ⟨v, hv⟩ := vec_cells rfl h6
  refine ⟨⟨x0, x1, x2, x3, x4, x5, x6, v, l0, l1, l2, l3, l4, l5, l6⟩, ?_⟩
  unfold O.arr O.cs O.hd
  rw [← hv]
  rfl
end
end Go.Proofs.YtnekpgmgnepdoaaGreat
end
