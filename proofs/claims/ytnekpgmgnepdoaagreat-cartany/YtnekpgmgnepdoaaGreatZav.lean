import Derived.Test.YtnekpgmgnepdoaaGreatZat
section
namespace Go.Proofs.YtnekpgmgnepdoaaGreat
open Go.RowKit
theorem neq24 (a b : V) (w : World) : (binOp .neq 24 (.agg a.arr) (.agg b.arr)).run Tryz.prog w = .ok (.bool (!V.eqB a b)) w := by
 rw [run_neq_struct, equal24]; rfl
end Go.Proofs.YtnekpgmgnepdoaaGreat
end
section
namespace Go.Proofs.YtnekpgmgnepdoaaGreat
open Go.RowKit
theorem exec_neq24 {ev : Operand → Value} {o : Oper} {x y : Operand} {t : TypeId} {a b : V} {w : World} {r : Bool} (ho : o.op = .binOp .neq 24 x y t) (hx : ev x = .agg a.arr) (hy : ev y = .agg b.arr) (hr : (!V.eqB a b) = r) : (execOp ev o).run Tryz.prog w = .ok (.value (.bool r)) w := by
 unfold execOp
 simp only [ho, hx, hy, Sem.run_bind, guard24, neq24, Result.andThen_ok, hr]
 rfl
end Go.Proofs.YtnekpgmgnepdoaaGreat
end
section
namespace Go.Proofs.YtnekpgmgnepdoaaGreat
open Go.RowKit
theorem info93 : (Tryz.prog.info? 93).map (fun i => (i.zero, i.size, i.bytes)) = some (some (.agg En.zero.arr), 7, 24) := by
 rw [show En.zero.arr = #[.int .u16 0, .int .u16 0, .int .u16 0, .int .u8 0, .int .u8 0, .int .u32 0, .int .u64 0] from rfl]; kernel_rfl
theorem bs93 (p : En) (w : World) : (Instr.buildSlice 25 1 #[(0, .agg p.arr)]).run Tryz.prog w = .ok (.slice (some ⟨w.heap.size, 0, none⟩) 1 1) (w.alloc (.cells p.arr 93)) := by
 obtain ⟨i0, hi, hz0, hz1, hz2⟩ := info_parts info93
 refine run_buildSlice w 25 93 1 _ _ i0 _ und25 hi hz0 (by rw [hz1]; omega) (by rw [hz1]; omega) ?_
 rw [hz1]
 kernel_rfl
theorem exec_bs93 {ev : Operand → Value} {q : Oper} {w : World} {x : Operand} {p : En} (ho : q.op = .buildSlice 25 1 #[(0, x)]) (hx : ev x = .agg p.arr) : (execOp ev q).run Tryz.prog w = .ok (.value (.slice (some ⟨w.heap.size, 0, none⟩) 1 1)) (w.alloc (.cells p.arr 93)) := by
 have hm : (#[((0 : Nat), x)]).map (fun (i, x) => (i, ev x)) = #[(0, Value.agg p.arr)] := by simp [hx]
 unfold execOp
 simp only [ho, hm, Sem.run_bind, bs93 p w, Result.andThen_ok]
 rfl
theorem loadVar96 {w : World} {g : Nat} {o : La} (h : Blk w g 96 o.arr) : (loadVar 96 ⟨g, 0, none⟩).run Tryz.prog w = .ok (.agg o.arr) w :=
 run_loadVar_row _ _ 96 96 o.arr (0, 0) _ h und96 rfl (by rw [o.arr_size]; exact size96)
theorem load96 {w : World} {g : Nat} {o : La} (h : Blk w g 96 o.arr) : (Instr.loadAt 96 (.pointer (some ⟨g, 0, none⟩))).run Tryz.prog w = .ok (.agg o.arr) w := by
 simp only [Instr.loadAt, Instr.sureAddr, Sem.run_bind, Sem.run_pure, Result.andThen]
 exact loadVar96 h
section
variable {ev : Operand → Value} {q : Oper} {w : World}
theorem exec_load96 {x : Operand} {g : Nat} {p : La} (ho : q.op = .load 96 x) (hx : ev x = .pointer (some ⟨g, 0, none⟩)) (h : Blk w g 96 p.arr) : (execOp ev q).run Tryz.prog w = .ok (.value (.agg p.arr)) w := exec_cell ho hx (load96 h)
end
theorem info95 : (Tryz.prog.info? 95).map (fun i => (i.zero, i.size, i.bytes)) = some (some (.agg La.zero.arr), 2, 8) := by
 rw [show La.zero.arr = #[.int .u16 0, .int .u32 0] from rfl]; kernel_rfl
theorem bs95 (p : La) (w : World) : (Instr.buildSlice 26 1 #[(0, .agg p.arr)]).run Tryz.prog w = .ok (.slice (some ⟨w.heap.size, 0, none⟩) 1 1) (w.alloc (.cells p.arr 95)) := by
 obtain ⟨i0, hi, hz0, hz1, hz2⟩ := info_parts info95
 refine run_buildSlice w 26 95 1 _ _ i0 _ und26 hi hz0 (by rw [hz1]; omega) (by rw [hz1]; omega) ?_
 rw [hz1]
 kernel_rfl
theorem exec_bs95 {ev : Operand → Value} {q : Oper} {w : World} {x : Operand} {p : La} (ho : q.op = .buildSlice 26 1 #[(0, x)]) (hx : ev x = .agg p.arr) : (execOp ev q).run Tryz.prog w = .ok (.value (.slice (some ⟨w.heap.size, 0, none⟩) 1 1)) (w.alloc (.cells p.arr 95)) := by
 have hm : (#[((0 : Nat), x)]).map (fun (i, x) => (i, ev x)) = #[(0, Value.agg p.arr)] := by simp [hx]
 unfold execOp
 simp only [ho, hm, Sem.run_bind, bs95 p w, Result.andThen_ok]
 rfl
end Go.Proofs.YtnekpgmgnepdoaaGreat
end
section
namespace Go.Proofs.YtnekpgmgnepdoaaGreat
open Go.RowKit Go.Maps
theorem und93f : Tryz.prog.underlying 93 = some (.struct (Tryz.prog.fieldsOf 93)) := by kernel_rfl
theorem eq93 (a b : En) (w : World) : (Op.equalIn 10000 93 (.agg a.arr) (.agg b.arr)).run Tryz.prog w = .ok (decide (a = b)) w := by
 have hp : Tryz.prog.stoodInHeld 93 = false := by kernel_rfl
 have p0 := epart a w (t := 31) (off := 0) (v := .int .u16 (a.c : Int)) (by kernel_rfl) rfl
 have p1 := epart a w (t := 31) (off := 1) (v := .int .u16 (a.i : Int)) (by kernel_rfl) rfl
 have p2 := epart a w (t := 31) (off := 2) (v := .int .u16 (a.q : Int)) (by kernel_rfl) rfl
 have p3 := epart a w (t := 5) (off := 3) (v := .int .u8 (a.k : Int)) (by kernel_rfl) rfl
 have p4 := epart_dot a w
 have p5 := epart a w (t := 67) (off := 6) (v := .int .u64 (a.n : Int)) (by kernel_rfl) rfl
 have q0 := epart b w (t := 31) (off := 0) (v := .int .u16 (b.c : Int)) (by kernel_rfl) rfl
 have q1 := epart b w (t := 31) (off := 1) (v := .int .u16 (b.i : Int)) (by kernel_rfl) rfl
 have q2 := epart b w (t := 31) (off := 2) (v := .int .u16 (b.q : Int)) (by kernel_rfl) rfl
 have q3 := epart b w (t := 5) (off := 3) (v := .int .u8 (b.k : Int)) (by kernel_rfl) rfl
 have q4 := epart_dot b w
 have q5 := epart b w (t := 67) (off := 6) (v := .int .u64 (b.n : Int)) (by kernel_rfl) rfl
 have e4 := eq_dots a.r a.s b.r b.s w
 have hE : decide (a = b) = (((a.c : Int) == (b.c : Int)) && (((a.i : Int) == (b.i : Int)) && (((a.q : Int) == (b.q : Int)) && (((a.k : Int) == (b.k : Int)) && (decide (a.r = b.r ∧ a.s = b.s) && (((a.n : Int) == (b.n : Int)) && true)))))) := by
  rw [Bool.eq_iff_iff]
  simp only [decide_eq_true_eq, Bool.and_eq_true, beq_iff_eq, Int.natCast_inj, and_true]
  constructor
  ·rintro rfl; simp
  ·rintro ⟨h0, h1, h2, h3, h4, h5⟩; exact En.ext' h0 h1 h2 h3 h4.1 h4.2 h5
 rw [hE, show (10000 : Nat) = 9999 + 1 from rfl, run_equalIn_agg w 9999 93 _ _ und93f hp]
 simp only [Program.fieldsOf, Tryz.underlying93]
 clear hp hE
 generalize a.arr = aa at *
 generalize b.arr = bb at *
 refine eqF_any _ _ (by decide) p0 q0 (eq_ints 31 .u16 _ _ w (by kernel_rfl)) ?_
 refine eqF_any _ _ (by decide) p1 q1 (eq_ints 31 .u16 _ _ w (by kernel_rfl)) ?_
 refine eqF_any _ _ (by decide) p2 q2 (eq_ints 31 .u16 _ _ w (by kernel_rfl)) ?_
 refine eqF_any _ _ (by decide) p3 q3 (eq_ints 5 .u8 _ _ w (by kernel_rfl)) ?_
 refine eqF_any _ _ (by decide) p4 q4 e4 ?_
 refine eqF_any _ _ (by decide) p5 q5 (eq_ints 67 .u64 _ _ w (by kernel_rfl)) ?_
 exact eqF_nil
theorem exec_neq93 {ev : Operand → Value} {o : Oper} {w : World} {x y : Operand} {t : TypeId} {a b : En} {r : Bool} (ho : o.op = .binOp .neq 93 x y t) (hx : ev x = .agg a.arr) (hy : ev y = .agg b.arr) (hr : (!decide (a = b)) = r) : (execOp ev o).run Tryz.prog w = .ok (.value (.bool r)) w := by
 subst hr
 have hq : (binOp .neq 93 (.agg a.arr) (.agg b.arr)).run Tryz.prog w = .ok (.bool (!decide (a = b))) w := by
  rw [run_neq_struct, eq93]; rfl
 have hg : (eqGuard .neq 93 x y (.agg a.arr) (.agg b.arr)).run Tryz.prog w = .ok () w := run_eqGuard_agg w .neq 93 x y _ _ (by kernel_rfl)
 unfold execOp
 simp only [ho, hx, hy, Sem.run_bind, hg, hq, Result.andThen_ok]
 rfl
end Go.Proofs.YtnekpgmgnepdoaaGreat
end
section
namespace Go.Proofs.YtnekpgmgnepdoaaGreat
open Go.RowKit
theorem info28z : (Tryz.prog.info? 28).map (fun i => (i.zero, i.size)) = some (some (.agg (stA V.zero (.slice none 0 0) (.slice none 0 0))), 18) := by rw [stA_zero]; kernel_rfl
theorem alloc28 (w : World) : (Instr.alloc 28 true (.tuple #[])).run Tryz.prog w = .ok (.pointer (some ⟨w.heap.size, 0, none⟩)) (w.alloc (.cells (stA V.zero (.slice none 0 0) (.slice none 0 0)) 28)) := by
 simp only [Instr.alloc, Sem.run_bind, (zero_of_info info28z).1, Result.andThen_ok]
 simp [newVar, newRow, Value.cells, go_sem]
theorem store28 {w : World} {g n c m d : Nat} {v u : V} {x y : Value} {a b : Option Addr} (h : Blk w g 28 (stA v x y)) : (Instr.storeAt 28 (.pointer (some ⟨g, 0, none⟩)) (.agg (sv u a n c b m d))).run Tryz.prog w = .ok () (w.setRow g (sv u a n c b m d)) := by
 simp only [Instr.storeAt, Instr.sureAddr, Sem.run_bind, Sem.run_pure, Result.andThen]
 exact run_storeVar_row _ _ 28 28 (stA v x y) (sv u a n c b m d) h (by rw [stA_size]; exact size28) (by rw [stA_size, stA_size]) (sv_one _ _ _ _ _ _ _)
theorem ret28 {fn : Func} {t : Tmp} (hf : fn.results = #[.cell t 28]) {tmps : Array Value} {w : World} {g : Nat} {v : V} {x y : Value} (hx : tmps.getD t undef = .pointer (some ⟨g, 0, none⟩)) (hb : Blk w g 28 (stA v x y)) :
  (results fn tmps).run Tryz.prog w = .ok (.agg (stA v x y)) w := by
 have hx' : tmps[t]?.getD undef = .pointer (some ⟨g, 0, none⟩) := by rw [← hx]; simp [Array.getD_eq_getD_getElem?]
 simp only [results, hf]
 simp [hx', asAddr, loadVar28 hb]
section
variable {ev : Operand → Value} {q : Oper} {w : World}
theorem exec_store28 {x y : Operand} {g n c m d : Nat} {v u : V} {p r : Value} {a b : Option Addr} (ho : q.op = .store 28 x y) (hx : ev x = .pointer (some ⟨g, 0, none⟩)) (hy : ev y = .agg (sv u a n c b m d)) (h : Blk w g 28 (stA v p r)) : (execOp ev q).run Tryz.prog w = .ok .skip (w.setRow g (sv u a n c b m d)) := by
 unfold execOp
 simp only [ho, hx, hy, Sem.run_bind, store28 (u := u) (a := a) (b := b) (n := n) (c := c) (m := m) (d := d) h, Result.andThen_ok]
 rfl
theorem exec_alloc28z {z : V} (hz : V.zero = z) (ho : q.op = .alloc 28) : (execOp ev q).run Tryz.prog w = .ok (.value (.pointer (some ⟨w.heap.size, 0, none⟩))) (w.alloc (.cells (sv z none 0 0 none 0 0) 28)) := by
 subst hz
 unfold execOp
 simp only [ho, Sem.run_bind, alloc28, Result.andThen_ok]
 rfl
end
section
variable {ops : Array Oper} {rest : List Oper} {o : Oper} {act : Act} {Q : Exit → Act → World → Prop} {W : World}
theorem wpList_stop28 {x y : Operand} (_ho : o.op = .store 28 x y) (k : Halt_ (wpList Tryz.prog ops Q (o :: rest) act W)) : wpList Tryz.prog ops Q (o :: rest) act W := k.out
end
end Go.Proofs.YtnekpgmgnepdoaaGreat
end
section
namespace Go.Proofs.YtnekpgmgnepdoaaGreat
open Go.RowKit
theorem exec_bldV28 {ev : Operand → Value} {q : Oper} {w : World} {x : Operand} {v : V} (ho : q.op = .build 28 #[(0, x)]) (hx : ev x = .agg v.arr) : (execOp ev q).run Tryz.prog w = .ok (.value (.agg (sv v none 0 0 none 0 0))) w := by
 have hm : (#[((0 : Nat), x)]).map (fun (i, x) => (i, ev x)) = #[(0, Value.agg v.arr)] := by simp [hx]
 have hb : (Instr.build 28 #[(0, .agg v.arr)]).run Tryz.prog w = .ok (.agg (sv v none 0 0 none 0 0)) w := by
  refine run_build w 28 _ _ ?_
  obtain ⟨x0, x1, x2, x3, x4, x5, x6, x7, x8, x9, y0, y1, y2, y3, y4, y5, hv⟩ := sixteen v
  unfold sv stA stC V.arr V.cs
  rw [hv]
  kernel_rfl
 unfold execOp
 simp only [ho, hm, Sem.run_bind, hb, Result.andThen_ok]
 rfl
set_option maxRecDepth 100000 in
set_option maxHeartbeats 8000000 in
theorem ours_any {s : Sta} {a b : Option Addr} {n c m d : Nat} {w : World} (hl : SL w s a n b m) (hn : n < 200000) (hm : m < 200000) : Calls Tryz.prog 20 #[.agg (sv s.v a n c b m d)] w (CopyP s n m w) := by
 have HL := Lib.hid hl
 have HSN := Lib.hid hl.es.len'
 have HSM := Lib.hid hl.ts.len'
 obtain ⟨z, hz⟩ : ∃ z, V.zero = z := ⟨_, rfl⟩
 have HZ := Lib.hid hz
 obtain ⟨ze, hze⟩ : ∃ z, En.zero = z := ⟨_, rfl⟩
 have HZN := Lib.hid hze
 obtain ⟨zl, hzl⟩ : ∃ z, La.zero = z := ⟨_, rfl⟩
 have HZL := Lib.hid hzl
 have hb1 := fun (v : V) x y w => box39 v x y w
 have H0 : Hid (Cp w ((w.alloc (.cells (sv s.v a n c b m d) 39)).alloc (.cells (sv z none 0 0 none 0 0) 28)) s 39 28 w.heap.size (w.heap.size + 1) a n c b m d z) := Lib.hid ⟨(Blk.new w 39 _).below (below_one _ _), by have := Blk.new (w.alloc (.cells (sv s.v a n c b m d) 39)) 28 (sv z none 0 0 none 0 0); simpa using this, below_2 _ _ _⟩
 clear hl hz hze hzl
 go_enter Tryz.func20, Tryz.ntmps20
 go_upto_region 1 with (refine wpList_run rfl (exec_alloc28z HZ.out rfl) ?_)
 clear hb1
 simp only [World.size_alloc, Act.put, List.setIfInBounds_toArray, List.set_cons_zero, List.set_cons_succ]
 generalize (w.alloc (.cells (sv s.v a n c b m d) 39)).alloc (.cells (sv z none 0 0 none 0 0) 28) = w0 at H0
 obtain ⟨p, hp⟩ : ∃ p, w.heap.size = p := ⟨_, rfl⟩
 obtain ⟨pr, hpr⟩ : ∃ q, p + 1 = q := ⟨_, rfl⟩
 have HPS : Hid (w.heap.size = p ∧ p + 1 = pr) := Lib.hid ⟨hp, hpr⟩
 rw [hp, hpr] at H0
 rw [hp, hpr]
 clear hp hpr
 go_wp2_with (first | (refine wpList_run rfl (exec_stV (v := s.v) rfl rfl H0.out.st) ?_) | (refine wpList_run rfl (exec_bldV28 (v := s.v) rfl rfl) ?_) | (refine wpList_run rfl (exec_alloc28z HZ.out rfl) ?_) | (refine wpList_stop28 rfl ?_))
 refine ⟨?_⟩
 refine wpList_void rfl rfl (exec_store28 rfl rfl rfl (Blk.new w0 28 _)) ?_
 have hbo := bo_laid w0 28 (sv z none 0 0 none 0 0) (sv s.v none 0 0 none 0 0)
 have HC0 := Lib.hid (H0.out.below hbo.old)
 have HN0 := Lib.hid hbo.one
 have HP0 : Hid (pr < w0.heap.size) := Lib.hid H0.out.res.lt
 have HZ0 : Hid (w0.heap.size + 1 ≤ ((w0.alloc (.cells (sv z none 0 0 none 0 0) 28)).setRow w0.heap.size (sv s.v none 0 0 none 0 0)).heap.size) := Lib.hid (by simp [World.setRow])
 clear hbo H0
 generalize (w0.alloc (.cells (sv z none 0 0 none 0 0) 28)).setRow w0.heap.size (sv s.v none 0 0 none 0 0) = w1 at HC0 HN0 HZ0
 generalize w0.heap.size = po at HN0 HP0 HZ0
 obtain ⟨B, hB⟩ : ∃ B, po + 1 = B := ⟨_, rfl⟩
 rw [hB] at HZ0
 have HPB : Hid (po < B) := Lib.hid (by omega)
 clear hB
 have c16 := stc16 HC0.out.st
 go_wp2_with fail
 clear c16
 go_loopw [14] (fun i wr => ∃ (k c1 : Nat) (a1 : Option Addr), k ≤ n ∧ i = .int .i64 (k : Int) ∧ Hid (Cp w wr s 39 28 p pr a n c b m d z) ∧ Hid (Blk wr po 28 (sv s.v a1 k c1 none 0 0)) ∧ Hid (OwnG wr 93 7 B a1 k c1 (cellsE (s.es.take k))) ∧ Hid (B ≤ wr.heap.size)) (fun i _ => n - (intOf i).toNat)
 case atStart => exact ⟨0, 0, none, Nat.zero_le _, rfl, HC0, HN0, Lib.hid (ownG_nil _ _ _ _), HZ0⟩
 case round =>
  obtain ⟨k, c1, a1, hk, rfl, HC, HN, HO, HS⟩ := hrel
  clear HC0 HN0 HZ0
  by_cases hlt : k < n
  ·obtain ⟨g, off, x, rfl, hx, hrw⟩ := EL.at (HL.out.es.below HC.out.old) hlt
   have HX : Hid (cellsE (s.es.take (k + 1)) = cellsE (s.es.take k) ++ [x.cs]) := Lib.hid (by rw [List.take_add_one, hx, cellsE_app]; rfl)
   have HR := Lib.hid hrw
   clear hx hrw
   go_wp2_with (first | (refine wpList_run rfl (exec_idx72 (i := k) rfl rfl rfl rfl hlt) ?_) | (refine wpList_run rfl (exec_ld72 (p := x) rfl rfl HR.out) ?_) | (refine wpList_run rfl (exec_alloc72z HZN.out rfl) ?_) | (refine wpList_stop72 rfl ?_))
   refine ⟨?_⟩
   refine wpList_void rfl rfl (exec_store72 (p := ze) (u := x) rfl rfl rfl (Blk.new wr 72 ze.arr)) ?_
   have hbo := bo_laid wr 72 ze.arr x.arr
   have HC1 := Lib.hid (HC.out.below hbo.old)
   have HN1 := Lib.hid (HN.out.below hbo.old)
   have HO1 := Lib.hid (HO.out.below hbo.old)
   have HS1 := Lib.hid (Nat.le_trans HS.out hbo.old.size)
   have HBX := Lib.hid hbo.one
   clear hbo HC HN HO HS HR
   generalize (wr.alloc (.cells ze.arr 72)).setRow wr.heap.size x.arr = w1 at HC1 HN1 HO1 HS1 HBX
   generalize wr.heap.size = qx at HBX
   have c16 := stc16 HN1.out
   go_wp2_with (first | (refine wpList_run rfl (exec_load72 (p := x) rfl rfl HBX.out) ?_) | (refine wpList_run rfl (exec_bs93 (p := x) rfl rfl) ?_) | (at_builtin; refine wpList_appendG 25 93 7 24 info93 und25 rfl (by decide) (by decide) rfl rfl rfl rfl (HO1.out.below (below_one w1 _)) (Blk.new w1 93 x.arr) x.arr_size (by simpa using x.one_cs) (by omega) (by have := HS1.out; simp; omega) ?_; intro a3 c3 w3 ho hk3 hl3; have HO3 := Lib.hid ho; have HK3 := Lib.hid hk3; clear ho hk3 hl3) | (refine wpList_stopS4 (by decide) rfl ?_))
   clear c16
   obtain ⟨hC3, hN3, hS3⟩ := cp_app HO1.out HK3.out HC1.out HN1.out HS1.out HPS.out HP0.out HPB.out
   have HC3 := Lib.hid hC3
   have HN3 := Lib.hid hN3
   have HS3 := Lib.hid hS3
   clear hC3 hN3 hS3
   refine ⟨?_⟩
   refine wpList_void rfl rfl (exec_stS4 (by decide) rfl rfl rfl HN3.out (by rw [stA_size]; decide)) ?_
   have hks := Kept.setCell w3 ⟨po, 16, none⟩ (.slice a3 (k + 1) c3)
   have hbl := HN3.out.set 16 (.slice a3 (k + 1) c3)
   rw [sv_es] at hbl
   have HC4 : Hid (Cp w (w3.setCell ⟨po, 16, none⟩ (.slice a3 (k + 1) c3)) s 39 28 p pr _ n c b m d z) := Lib.hid (HC3.out.kept hks HPS.out HP0.out)
   have HN4 := Lib.hid hbl
   have HO4 : Hid (OwnG (w3.setCell ⟨po, 16, none⟩ (.slice a3 (k + 1) c3)) 93 7 B a3 (k + 1) c3 (cellsE (s.es.take (k + 1)))) := Lib.hid (by rw [HX.out]; exact HO3.out.keep hks (fun ad e h => by have := (HO3.out.lt ad e).1; have := HPB.out; simp only at h; omega))
   have HS4 : Hid (B ≤ (w3.setCell ⟨po, 16, none⟩ (.slice a3 (k + 1) c3)).heap.size) := Lib.hid (Nat.le_trans HS3.out hks.size)
   clear hks hbl
   generalize w3.setCell ⟨po, 16, none⟩ (.slice a3 (k + 1) c3) = w4 at HC4 HN4 HO4 HS4
   go_wp2_with fail
   go_roundw
   case rel => exact ⟨k + 1, c3, a3, hlt, by go_num, HC4, HN4, HO4, HS4⟩
   case measure => simp [intOf]; omega
  ·have hkn : n = k := by omega
   subst hkn
   have hall : s.es.take n = s.es := List.take_of_length_le (by rw [HSN.out]; exact Nat.le_refl _)
   rw [hall] at HO
   clear hall
   have c17 := stc17 HC.out.st
   go_wp2_with fail
   clear c17
   obtain ⟨wE, hwE⟩ : ∃ W : World, W = wr := ⟨_, rfl⟩
   have HOE : Hid (OwnG wr 93 7 B a1 n c1 (cellsE s.es)) := HO
   clear hwE
   go_loopw [28] (fun i wr => ∃ (k c2 : Nat) (a2 : Option Addr), k ≤ m ∧ i = .int .i64 (k : Int) ∧ Hid (Cp w wr s 39 28 p pr a n c b m d z) ∧ Hid (Blk wr po 28 (sv s.v a1 n c1 a2 k c2)) ∧ Hid (OwnG wr 93 7 B a1 n c1 (cellsE s.es)) ∧ Hid (OwnG wr 95 2 B a2 k c2 (cellsL (s.ts.take k))) ∧ Hid (B ≤ wr.heap.size)) (fun i _ => m - (intOf i).toNat)
   case atStart => exact ⟨0, 0, none, Nat.zero_le _, rfl, HC, HN, HOE, Lib.hid (ownG_nil _ _ _ _), HS⟩
   case round =>
    clear HC HN HOE HS HO
    obtain ⟨k, c2, a2, hk, rfl, HC, HN, HO, HT, HS⟩ := hrel
    by_cases hlt : k < m
    ·obtain ⟨g, off, x, rfl, hx, hrw⟩ := LL.at (HL.out.ts.below HC.out.old) hlt
     have HX : Hid (cellsL (s.ts.take (k + 1)) = cellsL (s.ts.take k) ++ [x.cs]) := Lib.hid (by rw [List.take_add_one, hx, cellsL_app]; rfl)
     have HR := Lib.hid hrw
     clear hx hrw
     go_wp2_with (first | (refine wpList_run rfl (exec_idx96 (i := k) rfl rfl rfl rfl hlt) ?_) | (refine wpList_run rfl (exec_ld96 (p := x) rfl rfl HR.out) ?_) | (refine wpList_run rfl (exec_alloc96z HZL.out rfl) ?_) | (refine wpList_stop96 rfl ?_))
     refine ⟨?_⟩
     refine wpList_void rfl rfl (exec_store96 (p := zl) (u := x) rfl rfl rfl (Blk.new wr 96 zl.arr)) ?_
     have hbo := bo_laid wr 96 zl.arr x.arr
     have HC1 := Lib.hid (HC.out.below hbo.old)
     have HN1 := Lib.hid (HN.out.below hbo.old)
     have HO1 := Lib.hid (HO.out.below hbo.old)
     have HT1 := Lib.hid (HT.out.below hbo.old)
     have HS1 := Lib.hid (Nat.le_trans HS.out hbo.old.size)
     have HBX := Lib.hid hbo.one
     clear hbo HC HN HO HT HS HR
     generalize (wr.alloc (.cells zl.arr 96)).setRow wr.heap.size x.arr = w1 at HC1 HN1 HO1 HT1 HS1 HBX
     generalize wr.heap.size = qx at HBX
     have c17 := stc17 HN1.out
     go_wp2_with (first | (refine wpList_run rfl (exec_load96 (p := x) rfl rfl HBX.out) ?_) | (refine wpList_run rfl (exec_bs95 (p := x) rfl rfl) ?_) | (at_builtin; refine wpList_appendG 26 95 2 8 info95 und26 rfl (by decide) (by decide) rfl rfl rfl rfl (HT1.out.below (below_one w1 _)) (Blk.new w1 95 x.arr) x.arr_size (by simpa using x.one_cs) (by omega) (by have := HS1.out; simp; omega) ?_; intro a3 c3 w3 ho hk3 hl3; have HT3 := Lib.hid ho; have HK3 := Lib.hid hk3; clear ho hk3 hl3) | (refine wpList_stopS4 (by decide) rfl ?_))
     clear c17
     obtain ⟨hC3, hN3, hS3⟩ := cp_app HT1.out HK3.out HC1.out HN1.out HS1.out HPS.out HP0.out HPB.out
     have HC3 := Lib.hid hC3
     have HN3 := Lib.hid hN3
     have HS3 := Lib.hid hS3
     have HO3 : Hid (OwnG w3 93 7 B a1 n c1 (cellsE s.es)) := Lib.hid ((HO1.out.below (below_one w1 _)).keep HK3.out (fun ad e h => gk_apart HO1.out HT1.out (by decide) ad e h))
     clear hC3 hN3 hS3
     refine ⟨?_⟩
     refine wpList_void rfl rfl (exec_stS4 (by decide) rfl rfl rfl HN3.out (by rw [stA_size]; decide)) ?_
     have hks := Kept.setCell w3 ⟨po, 17, none⟩ (.slice a3 (k + 1) c3)
     have hbl := HN3.out.set 17 (.slice a3 (k + 1) c3)
     rw [sv_ts] at hbl
     have HC4 : Hid (Cp w (w3.setCell ⟨po, 17, none⟩ (.slice a3 (k + 1) c3)) s 39 28 p pr a n c _ m d z) := Lib.hid (HC3.out.kept hks HPS.out HP0.out)
     have HN4 := Lib.hid hbl
     have HO4 : Hid (OwnG (w3.setCell ⟨po, 17, none⟩ (.slice a3 (k + 1) c3)) 93 7 B a1 n c1 (cellsE s.es)) := Lib.hid (HO3.out.keep hks (fun ad e h => by have := (HO3.out.lt ad e).1; have := HPB.out; simp only at h; omega))
     have HT4 : Hid (OwnG (w3.setCell ⟨po, 17, none⟩ (.slice a3 (k + 1) c3)) 95 2 B a3 (k + 1) c3 (cellsL (s.ts.take (k + 1)))) := Lib.hid (by rw [HX.out]; exact HT3.out.keep hks (fun ad e h => by have := (HT3.out.lt ad e).1; have := HPB.out; simp only at h; omega))
     have HS4 : Hid (B ≤ (w3.setCell ⟨po, 17, none⟩ (.slice a3 (k + 1) c3)).heap.size) := Lib.hid (Nat.le_trans HS3.out hks.size)
     clear hks hbl
     generalize w3.setCell ⟨po, 17, none⟩ (.slice a3 (k + 1) c3) = w4 at HC4 HN4 HO4 HT4 HS4
     go_wp2_with fail
     go_roundw
     case rel => exact ⟨k + 1, c3, a3, hlt, by go_num, HC4, HN4, HO4, HT4, HS4⟩
     case measure => simp [intOf]; omega
    ·have hkm : m = k := by omega
     subst hkm
     have hall : s.ts.take m = s.ts := List.take_of_length_le (by rw [HSM.out]; exact Nat.le_refl _)
     rw [hall] at HT
     clear hall
     go_wp2_with (first | (refine wpList_run rfl (exec_load28 rfl rfl HN.out) ?_) | (refine wpList_stop28 rfl ?_))
     refine ⟨?_⟩
     refine wpList_void rfl rfl (exec_store28 rfl rfl rfl HC.out.res) ?_
     have hks := Kept.setRow wr pr (sv s.v a1 n c1 a2 m c2)
     have HF : Hid (CopyP s n m w (.returned (.agg (sv s.v a1 n c1 a2 m c2))) (wr.setRow pr (sv s.v a1 n c1 a2 m c2))) := Lib.hid ⟨a1, c1, a2, c2, rfl, ⟨(HO.out.keep hks (fun ad e h => by have := (HO.out.lt ad e).1; have := HPB.out; have := HP0.out; omega)).gl, (HT.out.keep hks (fun ad e h => by have := (HT.out.lt ad e).1; have := HPB.out; have := HP0.out; omega)).gl⟩, HC.out.old.trans (hks.below HC.out.old.size (fun k hk => by have := HPS.out; omega))⟩
     have HRB : Hid (Blk (wr.setRow pr (sv s.v a1 n c1 a2 m c2)) pr 28 (sv s.v a1 n c1 a2 m c2)) := Lib.hid HC.out.res.row
     generalize wr.setRow pr (sv s.v a1 n c1 a2 m c2) = w5 at HF HRB
     clear hks
     go_wp2_with fail
     exact bodyPost_ret (v := .agg (sv s.v a1 n c1 a2 m c2)) (ret28 rfl rfl HRB.out) rfl HF.out
end Go.Proofs.YtnekpgmgnepdoaaGreat
end
section
namespace Go.Proofs.YtnekpgmgnepdoaaGreat
open Go.RowKit
theorem und95f : Tryz.prog.underlying 95 = some (.struct (Tryz.prog.fieldsOf 95)) := by kernel_rfl
theorem eq95 (a b : La) (w : World) : (Op.equalIn 10000 95 (.agg a.arr) (.agg b.arr)).run Tryz.prog w = .ok (decide (a = b)) w := by
 have hp : Tryz.prog.stoodInHeld 95 = false := by kernel_rfl
 have hE : decide (a = b) = (((a.c : Int) == (b.c : Int)) && (((a.t : Int) == (b.t : Int)) && true)) := by
  rw [Bool.eq_iff_iff]
  simp only [decide_eq_true_eq, Bool.and_eq_true, beq_iff_eq, Int.natCast_inj, and_true]
  constructor
  ·rintro rfl; simp
  ·rintro ⟨h0, h1⟩; exact La.ext' h0 h1
 rw [hE, show (10000 : Nat) = 9999 + 1 from rfl, run_equalIn_agg w 9999 95 _ _ und95f hp]
 simp only [Program.fieldsOf, Tryz.underlying95]
 clear hp hE
 refine eqF_any (.int .u16 (a.c : Int)) (.int .u16 (b.c : Int)) (by decide) (dpart _ _ w (by kernel_rfl) rfl) (dpart _ _ w (by kernel_rfl) rfl) (eq_ints 31 .u16 _ _ w (by kernel_rfl)) ?_
 refine eqF_any (.int .u32 (a.t : Int)) (.int .u32 (b.t : Int)) (by decide) (dpart _ _ w (by kernel_rfl) rfl) (dpart _ _ w (by kernel_rfl) rfl) (eq_ints 22 .u32 _ _ w (by kernel_rfl)) ?_
 exact eqF_nil
theorem exec_neq95 {ev : Operand → Value} {o : Oper} {w : World} {x y : Operand} {t : TypeId} {a b : La} {r : Bool} (ho : o.op = .binOp .neq 95 x y t) (hx : ev x = .agg a.arr) (hy : ev y = .agg b.arr) (hr : (!decide (a = b)) = r) : (execOp ev o).run Tryz.prog w = .ok (.value (.bool r)) w := by
 subst hr
 have hq : (binOp .neq 95 (.agg a.arr) (.agg b.arr)).run Tryz.prog w = .ok (.bool (!decide (a = b))) w := by
  rw [run_neq_struct, eq95]; rfl
 have hg : (eqGuard .neq 95 x y (.agg a.arr) (.agg b.arr)).run Tryz.prog w = .ok () w := run_eqGuard_agg w .neq 95 x y _ _ (by kernel_rfl)
 unfold execOp
 simp only [ho, hx, hy, Sem.run_bind, hg, hq, Result.andThen_ok]
 rfl
structure SmW (w W : World) (p q : Nat) (U V : Array Value) : Prop where
 s1 : Blk W p 28 U
 s2 : Blk W q 28 V
 old : Below w.heap.size w W
structure SmS (w W : World) (p q : Nat) (U V : Array Value) (g o g2 o2 : Nat) (xs ys : List Value) : Prop where
 s1 : Blk W p 28 U
 s2 : Blk W q 28 V
 e1 : W.rangeAt g o xs
 e2 : W.rangeAt g2 o2 ys
 old : Below w.heap.size w W
theorem SmS.drew {w W : World} {p q : Nat} {U V : Array Value} {g o g2 o2 : Nat} {xs ys : List Value} (h : SmS w W p q U V g o g2 o2 xs ys) : SmS w W.drew p q U V g o g2 o2 xs ys := ⟨h.s1, h.s2, h.e1, h.e2, h.old.drew⟩
theorem take_eq {α : Type} {l l2 : List α} {k : Nat} {x : α} (h : l.take k = l2.take k) (h1 : l[k]? = some x) (h2 : l2[k]? = some x) : l.take (k + 1) = l2.take (k + 1) := by
 rw [List.take_add_one, List.take_add_one, h, h1, h2]
theorem take_ne {α : Type} {l l2 : List α} {k : Nat} {x y : α} (h1 : l[k]? = some x) (h2 : l2[k]? = some y) (hne : x ≠ y) : l ≠ l2 := by
 rintro rfl
 rw [h1] at h2
 exact hne (Option.some.inj h2)
theorem ints_ne {n k : Nat} (h : n ≠ k) : ((n : Int) != (k : Int)) = true := by simp; omega
theorem ints_ne' {n k : Nat} (h : n ≠ k) : ¬ ((n : Int) = (k : Int)) := by omega
set_option maxRecDepth 100000 in
set_option maxHeartbeats 8000000 in
theorem same_any {s t : Sta} {a b a2 b2 : Option Addr} {n c m d n2 c2 m2 d2 : Nat} {w : World} (hl : SL w s a n b m) (hl2 : SL w t a2 n2 b2 m2) (hn : n < 500000) (hm : m < 500000) : Calls Tryz.prog 19 #[.agg (sv s.v a n c b m d), .agg (sv t.v a2 n2 c2 b2 m2 d2)] w (SaysIff (s.v = t.v ∧ s.es = t.es ∧ s.ts = t.ts) w) := by
 have HL := Lib.hid hl
 have HL2 := Lib.hid hl2
 have HSN := Lib.hid hl.es.len'
 have HSM := Lib.hid hl.ts.len'
 have HTN := Lib.hid hl2.es.len'
 have HTM := Lib.hid hl2.ts.len'
 have hb1 := fun (v : V) x y w => box28 v x y w
 have H0 : Hid (SmW w ((w.alloc (.cells (sv s.v a n c b m d) 28)).alloc (.cells (sv t.v a2 n2 c2 b2 m2 d2) 28)) w.heap.size (w.heap.size + 1) (sv s.v a n c b m d) (sv t.v a2 n2 c2 b2 m2 d2)) := Lib.hid ⟨(Blk.new w 28 _).below (below_one _ _), by have := Blk.new (w.alloc (.cells (sv s.v a n c b m d) 28)) 28 (sv t.v a2 n2 c2 b2 m2 d2); simpa using this, below_2 _ _ _⟩
 clear hl hl2
 go_enter Tryz.func19, Tryz.ntmps19
 go_upto_region 1 with fail
 clear hb1
 try simp only [World.size_alloc, Act.put, List.setIfInBounds_toArray, List.set_cons_zero, List.set_cons_succ]
 generalize (w.alloc (.cells (sv s.v a n c b m d) 28)).alloc (.cells (sv t.v a2 n2 c2 b2 m2 d2) 28) = w0 at H0
 obtain ⟨p, hp⟩ : ∃ p, w.heap.size = p := ⟨_, rfl⟩
 obtain ⟨q, hq⟩ : ∃ q, p + 1 = q := ⟨_, rfl⟩
 rw [hp, hq] at H0
 rw [hp, hq]
 clear hp hq
 have c16 := stc16 H0.out.s1
 have c17 := stc17 H0.out.s1
 have c26 := stc16 H0.out.s2
 have c27 := stc17 H0.out.s2
 by_cases hv : s.v = t.v
 case neg =>
  have hq : (!V.eqB s.v t.v) = true := by simp [V.eqB, hv]
  have HNV := Lib.hid hv
  clear hv
  go_wp2_with (first | (refine wpList_run rfl (exec_stV (v := s.v) rfl rfl H0.out.s1) ?_) | (refine wpList_run rfl (exec_stV (v := t.v) rfl rfl H0.out.s2) ?_) | (refine wpList_run rfl (exec_neq24 (a := s.v) (b := t.v) rfl rfl rfl hq) ?_))
  go_ret
  exact ⟨false, rfl, ⟨fun h => by simp at h, fun h => absurd h.1 HNV.out⟩, H0.out.old⟩
 have hq : (!V.eqB s.v t.v) = false := by simp [V.eqB, hv]
 have HV := Lib.hid hv
 clear hv
 by_cases hnn : n = n2
 case neg =>
  have q1 := ints_ne hnn
  have q2 := ints_ne' hnn
  have HNE : Hid (s.es ≠ t.es) := Lib.hid (fun h => hnn (by rw [← HSN.out, ← HTN.out, h]))
  clear hnn
  go_wp2_with (first | (refine wpList_run rfl (exec_stV (v := s.v) rfl rfl H0.out.s1) ?_) | (refine wpList_run rfl (exec_stV (v := t.v) rfl rfl H0.out.s2) ?_) | (refine wpList_run rfl (exec_neq24 (a := s.v) (b := t.v) rfl rfl rfl hq) ?_))
  go_ret
  exact ⟨false, rfl, ⟨fun h => by simp at h, fun h => absurd h.2.1 HNE.out⟩, H0.out.old⟩
 subst hnn
 by_cases hmm : m = m2
 case neg =>
  have q1 := ints_ne hmm
  have q2 := ints_ne' hmm
  have HNE : Hid (s.ts ≠ t.ts) := Lib.hid (fun h => hmm (by rw [← HSM.out, ← HTM.out, h]))
  clear hmm
  go_wp2_with (first | (refine wpList_run rfl (exec_stV (v := s.v) rfl rfl H0.out.s1) ?_) | (refine wpList_run rfl (exec_stV (v := t.v) rfl rfl H0.out.s2) ?_) | (refine wpList_run rfl (exec_neq24 (a := s.v) (b := t.v) rfl rfl rfl hq) ?_))
  go_ret
  exact ⟨false, rfl, ⟨fun h => by simp at h, fun h => absurd h.2.2 HNE.out⟩, H0.out.old⟩
 subst hmm
 go_wp2_with (first | (refine wpList_run rfl (exec_stV (v := s.v) rfl rfl H0.out.s1) ?_) | (refine wpList_run rfl (exec_stV (v := t.v) rfl rfl H0.out.s2) ?_) | (refine wpList_run rfl (exec_neq24 (a := s.v) (b := t.v) rfl rfl rfl hq) ?_))
 clear hq c16 c17 c26 c27
 go_loopw [5] (fun iv wr => ∃ k : Nat, k ≤ n ∧ iv = .int .i64 (k : Int) ∧ Hid (s.es.take k = t.es.take k) ∧ Hid (SmW w wr p q (sv s.v a n c b m d) (sv t.v a2 n c2 b2 m d2))) (fun iv _ => n - (intOf iv).toNat)
 case atStart => exact ⟨0, Nat.zero_le _, rfl, Lib.hid (by simp), H0⟩
 case round =>
  obtain ⟨k, hk, rfl, HK, HW⟩ := hrel
  clear H0
  have c16 := stc16 HW.out.s1
  by_cases hlt : k < n
  ·obtain ⟨g, off, x, rfl, hx, hr⟩ := EL.at (HL.out.es.below HW.out.old) hlt
   obtain ⟨g2, off2, y, rfl, hy, hr2⟩ := EL.at (HL2.out.es.below HW.out.old) hlt
   have HX := Lib.hid hx
   have HY := Lib.hid hy
   have HQ : Hid (SmS w wr p q (sv s.v (some ⟨g, off, none⟩) n c b m d) (sv t.v (some ⟨g2, off2, none⟩) n c2 b2 m d2) g (off + k * 7) g2 (off2 + k * 7) x.cs y.cs) := Lib.hid ⟨HW.out.s1, HW.out.s2, hr, hr2, HW.out.old⟩
   clear hx hr hy hr2
   by_cases hxy : x = y
   ·have hq : (!decide (x = y)) = false := by simp [hxy]
    have HK2 : Hid (s.es.take (k + 1) = t.es.take (k + 1)) := Lib.hid (take_eq HK.out HX.out (by rw [hxy]; exact HY.out))
    clear hxy
    go_wp2_with fail
    refine wp_region_held_drew (S := fun w' => SmS w w' p q (sv s.v (some ⟨g, off, none⟩) n c b m d) (sv t.v (some ⟨g2, off2, none⟩) n c2 b2 m d2) g (off + k * 7) g2 (off2 + k * 7) x.cs y.cs) (by kernel_rfl) HQ.out.drew (fun hS => ?_)
    refine held_tk 0 37 (.pointer (some ⟨p, 16, none⟩)) rfl rfl (by kernel_rfl) (fun _ _ _ h => h) (fun _ _ => (by kernel_rfl)) hS ?_
    simp only [Act.put, ap1, ap2, ap3]
    refine held_tk 1 38 (.slice (some ⟨g, off, none⟩) n c) rfl rfl (by kernel_rfl) (fun _ _ _ h => h) (fun _ h => exec_cell rfl rfl (load_cell (by kernel_rfl) (stc16 h.s1))) hS ?_
    simp only [Act.put, ap1, ap2, ap3]
    refine held_tk 2 39 (.int .i64 (k : Int)) rfl rfl (by kernel_rfl) (fun _ _ _ h => h) (fun _ _ => rfl) hS ?_
    simp only [Act.put, ap1, ap2, ap3]
    refine held_tk 3 40 (.pointer (some ⟨g, off + k * 7, none⟩)) rfl rfl (by kernel_rfl) (fun _ _ _ h => h) (fun _ _ => exec_idx93 (i := k) rfl rfl rfl rfl hlt) hS ?_
    simp only [Act.put, ap1, ap2, ap3]
    refine held_tk 4 41 (.agg x.arr) rfl rfl (by kernel_rfl) (fun _ _ _ h => h) (fun _ h => exec_ld93 (p := x) rfl rfl h.e1) hS ?_
    simp only [Act.put, ap1, ap2, ap3]
    refine held_tk 5 42 (.pointer (some ⟨q, 16, none⟩)) rfl rfl (by kernel_rfl) (fun _ _ _ h => h) (fun _ _ => (by kernel_rfl)) hS ?_
    simp only [Act.put, ap1, ap2, ap3]
    refine held_tk 6 43 (.slice (some ⟨g2, off2, none⟩) n c2) rfl rfl (by kernel_rfl) (fun _ _ _ h => h) (fun _ h => exec_cell rfl rfl (load_cell (by kernel_rfl) (stc16 h.s2))) hS ?_
    simp only [Act.put, ap1, ap2, ap3]
    refine held_tk 7 44 (.int .i64 (k : Int)) rfl rfl (by kernel_rfl) (fun _ _ _ h => h) (fun _ _ => rfl) hS ?_
    simp only [Act.put, ap1, ap2, ap3]
    refine held_tk 8 45 (.pointer (some ⟨g2, off2 + k * 7, none⟩)) rfl rfl (by kernel_rfl) (fun _ _ _ h => h) (fun _ _ => exec_idx93 (i := k) rfl rfl rfl rfl hlt) hS ?_
    simp only [Act.put, ap1, ap2, ap3]
    refine held_tk 9 46 (.agg y.arr) rfl rfl (by kernel_rfl) (fun _ _ _ h => h) (fun _ h => exec_ld93 (p := y) rfl rfl h.e2) hS ?_
    simp only [Act.put, ap1, ap2, ap3]
    refine held_tk 10 47 (.bool false) rfl rfl (by kernel_rfl) (fun _ _ _ h => h) (fun _ _ => exec_neq93 rfl rfl rfl hq) hS ?_
    simp only [Act.put, ap1, ap2, ap3]
    refine wpAnyH_done (by kernel_rfl) ?_ _
    have HS2 := Lib.hid hS
    clear hS
    go_wp2_with fail
    go_roundw
    case rel => exact ⟨k + 1, hlt, by go_num, HK2, Lib.hid ⟨HS2.out.s1, HS2.out.s2, HS2.out.old⟩⟩
    case measure => simp [intOf]; omega
   ·have hq : (!decide (x = y)) = true := by simp [hxy]
    have HNE : Hid (s.es ≠ t.es) := Lib.hid (take_ne HX.out HY.out hxy)
    clear hxy
    go_wp2_with fail
    refine wp_region_held_drew (S := fun w' => SmS w w' p q (sv s.v (some ⟨g, off, none⟩) n c b m d) (sv t.v (some ⟨g2, off2, none⟩) n c2 b2 m d2) g (off + k * 7) g2 (off2 + k * 7) x.cs y.cs) (by kernel_rfl) HQ.out.drew (fun hS => ?_)
    refine held_tk 0 37 (.pointer (some ⟨p, 16, none⟩)) rfl rfl (by kernel_rfl) (fun _ _ _ h => h) (fun _ _ => (by kernel_rfl)) hS ?_
    simp only [Act.put, ap1, ap2, ap3]
    refine held_tk 1 38 (.slice (some ⟨g, off, none⟩) n c) rfl rfl (by kernel_rfl) (fun _ _ _ h => h) (fun _ h => exec_cell rfl rfl (load_cell (by kernel_rfl) (stc16 h.s1))) hS ?_
    simp only [Act.put, ap1, ap2, ap3]
    refine held_tk 2 39 (.int .i64 (k : Int)) rfl rfl (by kernel_rfl) (fun _ _ _ h => h) (fun _ _ => rfl) hS ?_
    simp only [Act.put, ap1, ap2, ap3]
    refine held_tk 3 40 (.pointer (some ⟨g, off + k * 7, none⟩)) rfl rfl (by kernel_rfl) (fun _ _ _ h => h) (fun _ _ => exec_idx93 (i := k) rfl rfl rfl rfl hlt) hS ?_
    simp only [Act.put, ap1, ap2, ap3]
    refine held_tk 4 41 (.agg x.arr) rfl rfl (by kernel_rfl) (fun _ _ _ h => h) (fun _ h => exec_ld93 (p := x) rfl rfl h.e1) hS ?_
    simp only [Act.put, ap1, ap2, ap3]
    refine held_tk 5 42 (.pointer (some ⟨q, 16, none⟩)) rfl rfl (by kernel_rfl) (fun _ _ _ h => h) (fun _ _ => (by kernel_rfl)) hS ?_
    simp only [Act.put, ap1, ap2, ap3]
    refine held_tk 6 43 (.slice (some ⟨g2, off2, none⟩) n c2) rfl rfl (by kernel_rfl) (fun _ _ _ h => h) (fun _ h => exec_cell rfl rfl (load_cell (by kernel_rfl) (stc16 h.s2))) hS ?_
    simp only [Act.put, ap1, ap2, ap3]
    refine held_tk 7 44 (.int .i64 (k : Int)) rfl rfl (by kernel_rfl) (fun _ _ _ h => h) (fun _ _ => rfl) hS ?_
    simp only [Act.put, ap1, ap2, ap3]
    refine held_tk 8 45 (.pointer (some ⟨g2, off2 + k * 7, none⟩)) rfl rfl (by kernel_rfl) (fun _ _ _ h => h) (fun _ _ => exec_idx93 (i := k) rfl rfl rfl rfl hlt) hS ?_
    simp only [Act.put, ap1, ap2, ap3]
    refine held_tk 9 46 (.agg y.arr) rfl rfl (by kernel_rfl) (fun _ _ _ h => h) (fun _ h => exec_ld93 (p := y) rfl rfl h.e2) hS ?_
    simp only [Act.put, ap1, ap2, ap3]
    refine held_tk 10 47 (.bool true) rfl rfl (by kernel_rfl) (fun _ _ _ h => h) (fun _ _ => exec_neq93 rfl rfl rfl hq) hS ?_
    simp only [Act.put, ap1, ap2, ap3]
    refine wpAnyH_done (by kernel_rfl) ?_ _
    have HS2 := Lib.hid hS
    clear hS
    go_wp2_with fail
    go_ret
    exact ⟨false, rfl, ⟨fun h => by simp at h, fun h => absurd h.2.1 HNE.out⟩, HS2.out.old⟩
  ·have hkn : n = k := by omega
   subst hkn
   have HES : Hid (s.es = t.es) := Lib.hid (by have := HK.out; rwa [List.take_of_length_le (by rw [HSN.out]; exact Nat.le_refl _), List.take_of_length_le (by rw [HTN.out]; exact Nat.le_refl _)] at this)
   clear HK
   go_wp2_with fail
   clear c16
   go_loopw [6] (fun iv wr => ∃ k : Nat, k ≤ m ∧ iv = .int .i64 (k : Int) ∧ Hid (s.ts.take k = t.ts.take k) ∧ Hid (SmW w wr p q (sv s.v a n c b m d) (sv t.v a2 n c2 b2 m d2))) (fun iv _ => m - (intOf iv).toNat)
   case atStart => exact ⟨0, Nat.zero_le _, rfl, Lib.hid (by simp), HW⟩
   case round =>
    clear HW
    obtain ⟨k, hk, rfl, HK, HW⟩ := hrel
    have c17 := stc17 HW.out.s1
    by_cases hlt : k < m
    ·obtain ⟨g, off, x, rfl, hx, hr⟩ := LL.at (HL.out.ts.below HW.out.old) hlt
     obtain ⟨g2, off2, y, rfl, hy, hr2⟩ := LL.at (HL2.out.ts.below HW.out.old) hlt
     have HX := Lib.hid hx
     have HY := Lib.hid hy
     have HQ : Hid (SmS w wr p q (sv s.v a n c (some ⟨g, off, none⟩) m d) (sv t.v a2 n c2 (some ⟨g2, off2, none⟩) m d2) g (off + k * 2) g2 (off2 + k * 2) x.cs y.cs) := Lib.hid ⟨HW.out.s1, HW.out.s2, hr, hr2, HW.out.old⟩
     clear hx hr hy hr2
     by_cases hxy : x = y
     ·have hq : (!decide (x = y)) = false := by simp [hxy]
      have HK2 : Hid (s.ts.take (k + 1) = t.ts.take (k + 1)) := Lib.hid (take_eq HK.out HX.out (by rw [hxy]; exact HY.out))
      clear hxy
      go_wp2_with fail
      refine wp_region_held_drew (S := fun w' => SmS w w' p q (sv s.v a n c (some ⟨g, off, none⟩) m d) (sv t.v a2 n c2 (some ⟨g2, off2, none⟩) m d2) g (off + k * 2) g2 (off2 + k * 2) x.cs y.cs) (by kernel_rfl) HQ.out.drew (fun hS => ?_)
      refine held_tk 0 55 (.pointer (some ⟨p, 17, none⟩)) rfl rfl (by kernel_rfl) (fun _ _ _ h => h) (fun _ _ => (by kernel_rfl)) hS ?_
      simp only [Act.put, ap1, ap2, ap3]
      refine held_tk 1 56 (.slice (some ⟨g, off, none⟩) m d) rfl rfl (by kernel_rfl) (fun _ _ _ h => h) (fun _ h => exec_cell rfl rfl (load_cell (by kernel_rfl) (stc17 h.s1))) hS ?_
      simp only [Act.put, ap1, ap2, ap3]
      refine held_tk 2 57 (.int .i64 (k : Int)) rfl rfl (by kernel_rfl) (fun _ _ _ h => h) (fun _ _ => rfl) hS ?_
      simp only [Act.put, ap1, ap2, ap3]
      refine held_tk 3 58 (.pointer (some ⟨g, off + k * 2, none⟩)) rfl rfl (by kernel_rfl) (fun _ _ _ h => h) (fun _ _ => exec_idx95 (i := k) rfl rfl rfl rfl hlt) hS ?_
      simp only [Act.put, ap1, ap2, ap3]
      refine held_tk 4 59 (.agg x.arr) rfl rfl (by kernel_rfl) (fun _ _ _ h => h) (fun _ h => exec_ld95 (p := x) rfl rfl h.e1) hS ?_
      simp only [Act.put, ap1, ap2, ap3]
      refine held_tk 5 60 (.pointer (some ⟨q, 17, none⟩)) rfl rfl (by kernel_rfl) (fun _ _ _ h => h) (fun _ _ => (by kernel_rfl)) hS ?_
      simp only [Act.put, ap1, ap2, ap3]
      refine held_tk 6 61 (.slice (some ⟨g2, off2, none⟩) m d2) rfl rfl (by kernel_rfl) (fun _ _ _ h => h) (fun _ h => exec_cell rfl rfl (load_cell (by kernel_rfl) (stc17 h.s2))) hS ?_
      simp only [Act.put, ap1, ap2, ap3]
      refine held_tk 7 62 (.int .i64 (k : Int)) rfl rfl (by kernel_rfl) (fun _ _ _ h => h) (fun _ _ => rfl) hS ?_
      simp only [Act.put, ap1, ap2, ap3]
      refine held_tk 8 63 (.pointer (some ⟨g2, off2 + k * 2, none⟩)) rfl rfl (by kernel_rfl) (fun _ _ _ h => h) (fun _ _ => exec_idx95 (i := k) rfl rfl rfl rfl hlt) hS ?_
      simp only [Act.put, ap1, ap2, ap3]
      refine held_tk 9 64 (.agg y.arr) rfl rfl (by kernel_rfl) (fun _ _ _ h => h) (fun _ h => exec_ld95 (p := y) rfl rfl h.e2) hS ?_
      simp only [Act.put, ap1, ap2, ap3]
      refine held_tk 10 65 (.bool false) rfl rfl (by kernel_rfl) (fun _ _ _ h => h) (fun _ _ => exec_neq95 rfl rfl rfl hq) hS ?_
      simp only [Act.put, ap1, ap2, ap3]
      refine wpAnyH_done (by kernel_rfl) ?_ _
      have HS2 := Lib.hid hS
      clear hS
      go_wp2_with fail
      go_roundw
      case rel => exact ⟨k + 1, hlt, by go_num, HK2, Lib.hid ⟨HS2.out.s1, HS2.out.s2, HS2.out.old⟩⟩
      case measure => simp [intOf]; omega
     ·have hq : (!decide (x = y)) = true := by simp [hxy]
      have HNE : Hid (s.ts ≠ t.ts) := Lib.hid (take_ne HX.out HY.out hxy)
      clear hxy
      go_wp2_with fail
      refine wp_region_held_drew (S := fun w' => SmS w w' p q (sv s.v a n c (some ⟨g, off, none⟩) m d) (sv t.v a2 n c2 (some ⟨g2, off2, none⟩) m d2) g (off + k * 2) g2 (off2 + k * 2) x.cs y.cs) (by kernel_rfl) HQ.out.drew (fun hS => ?_)
      refine held_tk 0 55 (.pointer (some ⟨p, 17, none⟩)) rfl rfl (by kernel_rfl) (fun _ _ _ h => h) (fun _ _ => (by kernel_rfl)) hS ?_
      simp only [Act.put, ap1, ap2, ap3]
      refine held_tk 1 56 (.slice (some ⟨g, off, none⟩) m d) rfl rfl (by kernel_rfl) (fun _ _ _ h => h) (fun _ h => exec_cell rfl rfl (load_cell (by kernel_rfl) (stc17 h.s1))) hS ?_
      simp only [Act.put, ap1, ap2, ap3]
      refine held_tk 2 57 (.int .i64 (k : Int)) rfl rfl (by kernel_rfl) (fun _ _ _ h => h) (fun _ _ => rfl) hS ?_
      simp only [Act.put, ap1, ap2, ap3]
      refine held_tk 3 58 (.pointer (some ⟨g, off + k * 2, none⟩)) rfl rfl (by kernel_rfl) (fun _ _ _ h => h) (fun _ _ => exec_idx95 (i := k) rfl rfl rfl rfl hlt) hS ?_
      simp only [Act.put, ap1, ap2, ap3]
      refine held_tk 4 59 (.agg x.arr) rfl rfl (by kernel_rfl) (fun _ _ _ h => h) (fun _ h => exec_ld95 (p := x) rfl rfl h.e1) hS ?_
      simp only [Act.put, ap1, ap2, ap3]
      refine held_tk 5 60 (.pointer (some ⟨q, 17, none⟩)) rfl rfl (by kernel_rfl) (fun _ _ _ h => h) (fun _ _ => (by kernel_rfl)) hS ?_
      simp only [Act.put, ap1, ap2, ap3]
      refine held_tk 6 61 (.slice (some ⟨g2, off2, none⟩) m d2) rfl rfl (by kernel_rfl) (fun _ _ _ h => h) (fun _ h => exec_cell rfl rfl (load_cell (by kernel_rfl) (stc17 h.s2))) hS ?_
      simp only [Act.put, ap1, ap2, ap3]
      refine held_tk 7 62 (.int .i64 (k : Int)) rfl rfl (by kernel_rfl) (fun _ _ _ h => h) (fun _ _ => rfl) hS ?_
      simp only [Act.put, ap1, ap2, ap3]
      refine held_tk 8 63 (.pointer (some ⟨g2, off2 + k * 2, none⟩)) rfl rfl (by kernel_rfl) (fun _ _ _ h => h) (fun _ _ => exec_idx95 (i := k) rfl rfl rfl rfl hlt) hS ?_
      simp only [Act.put, ap1, ap2, ap3]
      refine held_tk 9 64 (.agg y.arr) rfl rfl (by kernel_rfl) (fun _ _ _ h => h) (fun _ h => exec_ld95 (p := y) rfl rfl h.e2) hS ?_
      simp only [Act.put, ap1, ap2, ap3]
      refine held_tk 10 65 (.bool true) rfl rfl (by kernel_rfl) (fun _ _ _ h => h) (fun _ _ => exec_neq95 rfl rfl rfl hq) hS ?_
      simp only [Act.put, ap1, ap2, ap3]
      refine wpAnyH_done (by kernel_rfl) ?_ _
      have HS2 := Lib.hid hS
      clear hS
      go_wp2_with fail
      go_ret
      exact ⟨false, rfl, ⟨fun h => by simp at h, fun h => absurd h.2.2 HNE.out⟩, HS2.out.old⟩
    ·have hkm : m = k := by omega
     subst hkm
     have HTS : Hid (s.ts = t.ts) := Lib.hid (by have := HK.out; rwa [List.take_of_length_le (by rw [HSM.out]; exact Nat.le_refl _), List.take_of_length_le (by rw [HTM.out]; exact Nat.le_refl _)] at this)
     go_wp2_with fail
     go_ret
     exact ⟨true, rfl, ⟨fun _ => ⟨HV.out, HES.out, HTS.out⟩, fun _ => rfl⟩, HW.out.old⟩
end Go.Proofs.YtnekpgmgnepdoaaGreat
end
