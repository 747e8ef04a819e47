import Derived.Great.BuildSlice
import Derived.Sort.Grow
import Derived.Deep.DeepCutAuto
import Derived.Laws.IdiomCopy
import Derived.Test.YtnekpgmgnepdoaaGreatWab
section
namespace Go.Proofs.YtnekpgmgnepdoaaGreat
open Go.RowKit
def En.cs (e : En) : List Value := [.int .u16 (e.c : Int), .int .u16 (e.i : Int), .int .u16 (e.q : Int), .int .u8 (e.k : Int), .int .u8 (e.r : Int), .int .u32 (e.s : Int), .int .u64 (e.n : Int)]
abbrev En.arr (e : En) : Array Value := e.cs.toArray
def La.cs (t : La) : List Value := [.int .u16 (t.c : Int), .int .u32 (t.t : Int)]
abbrev La.arr (t : La) : Array Value := t.cs.toArray
theorem En.cs_len (e : En) : e.cs.length = 7 := rfl
theorem La.cs_len (e : La) : e.cs.length = 2 := rfl
theorem En.arr_size (e : En) : e.arr.size = 7 := rfl
theorem La.arr_size (e : La) : e.arr.size = 2 := rfl
theorem En.one_cs (e : En) : ∀ u ∈ e.cs, u.oneCell' = true := by
 intro u hu
 simp only [En.cs, List.mem_cons, List.not_mem_nil, or_false] at hu
 rcases hu with rfl | rfl | rfl | rfl | rfl | rfl | rfl <;> rfl
theorem La.one_cs (e : La) : ∀ u ∈ e.cs, u.oneCell' = true := by
 intro u hu
 simp only [La.cs, List.mem_cons, List.not_mem_nil, or_false] at hu
 rcases hu with rfl | rfl <;> rfl
theorem En.arr_one (e : En) : e.arr.all (·.oneCell') = true := all_oneCell_toArray e.one_cs
theorem La.arr_one (e : La) : e.arr.all (·.oneCell') = true := all_oneCell_toArray e.one_cs
def La.zero : La := ⟨0, 0, by omega, by omega⟩
def cellsE (l : List En) : List (List Value) := l.map En.cs
def cellsL (l : List La) : List (List Value) := l.map La.cs
abbrev EL (w : World) (a : Option Addr) (n : Nat) (l : List En) : Prop := GL w 7 a n (cellsE l)
abbrev LL (w : World) (a : Option Addr) (n : Nat) (l : List La) : Prop := GL w 2 a n (cellsL l)
theorem EL.len' {w : World} {a : Option Addr} {n : Nat} {l : List En} (h : EL w a n l) : l.length = n := by have := h.len; simpa [cellsE] using this
theorem LL.len' {w : World} {a : Option Addr} {n : Nat} {l : List La} (h : LL w a n l) : l.length = n := by have := h.len; simpa [cellsL] using this
theorem cellsE_each (l : List En) : ∀ v ∈ cellsE l, v.length = 7 := by
 intro v hv
 obtain ⟨x, _, rfl⟩ := List.mem_map.1 hv
 rfl
theorem cellsL_each (l : List La) : ∀ v ∈ cellsL l, v.length = 2 := by
 intro v hv
 obtain ⟨x, _, rfl⟩ := List.mem_map.1 hv
 rfl
theorem EL.at {w : World} {a : Option Addr} {n i : Nat} {l : List En} (h : EL w a n l) (hi : i < n) : ∃ b off x, a = some ⟨b, off, none⟩ ∧ l[i]? = some x ∧ w.rangeAt b (off + i * 7) x.cs := by
 have hl := h.len'
 rcases h.cells with h0 | ⟨b, off, ha, hc⟩
 ·omega
 ·have hi' : i < l.length := by omega
  exact ⟨b, off, l[i], ha, List.getElem?_eq_getElem hi', hc i _ (by simp [cellsE, hi'])⟩
theorem LL.at {w : World} {a : Option Addr} {n i : Nat} {l : List La} (h : LL w a n l) (hi : i < n) : ∃ b off x, a = some ⟨b, off, none⟩ ∧ l[i]? = some x ∧ w.rangeAt b (off + i * 2) x.cs := by
 have hl := h.len'
 rcases h.cells with h0 | ⟨b, off, ha, hc⟩
 ·omega
 ·have hi' : i < l.length := by omega
  exact ⟨b, off, l[i], ha, List.getElem?_eq_getElem hi', hc i _ (by simp [cellsL, hi'])⟩
theorem GL.nil (w : World) (size : Nat) (a : Option Addr) : GL w size a 0 [] := ⟨rfl, .inl rfl⟩
theorem glaid_blk (w : World) (t : TypeId) (z u : Array Value) : Blk ((w.alloc (.cells z t)).setRow w.heap.size u) w.heap.size t u := (Blk.new w t z).row
theorem glaid_old (w : World) (t : TypeId) (z u : Array Value) : Below w.heap.size w ((w.alloc (.cells z t)).setRow w.heap.size u) :=
 (below_one w _).trans ((Kept.setRow (w.alloc (.cells z t)) w.heap.size u).below (by simp) (fun k hk => by omega))
structure Bo (w W : World) (t : TypeId) (cs : Array Value) : Prop where
 one : Blk W w.heap.size t cs
 old : Below w.heap.size w W
theorem Bo.below {w W W' : World} {t : TypeId} {cs : Array Value} (h : Bo w W t cs) (hb : Below W.heap.size W W') : Bo w W' t cs := ⟨h.one.below hb, h.old.trans (hb.mono h.old.size)⟩
theorem bo_laid (w : World) (t : TypeId) (z u : Array Value) : Bo w ((w.alloc (.cells z t)).setRow w.heap.size u) t u := ⟨glaid_blk w t z u, glaid_old w t z u⟩
theorem bo_new (w : World) (t : TypeId) (u : Array Value) : Bo w (w.alloc (.cells u t)) t u := ⟨Blk.new w t u, below_one _ _⟩
theorem ent0 {W : World} {g t : Nat} {e : En} (h : Blk W g t e.arr) : W.cell? ⟨g, 0, none⟩ = some (.int .u16 (e.c : Int)) := by rw [h.cell]; rfl
theorem ent1 {W : World} {g t : Nat} {e : En} (h : Blk W g t e.arr) : W.cell? ⟨g, 1, none⟩ = some (.int .u16 (e.i : Int)) := by rw [h.cell]; rfl
theorem ent2 {W : World} {g t : Nat} {e : En} (h : Blk W g t e.arr) : W.cell? ⟨g, 2, none⟩ = some (.int .u16 (e.q : Int)) := by rw [h.cell]; rfl
theorem ent3 {W : World} {g t : Nat} {e : En} (h : Blk W g t e.arr) : W.cell? ⟨g, 3, none⟩ = some (.int .u8 (e.k : Int)) := by rw [h.cell]; rfl
theorem ent4 {W : World} {g t : Nat} {e : En} (h : Blk W g t e.arr) : W.cell? ⟨g, 4, none⟩ = some (.int .u8 (e.r : Int)) := by rw [h.cell]; rfl
theorem ent5 {W : World} {g t : Nat} {e : En} (h : Blk W g t e.arr) : W.cell? ⟨g, 5, none⟩ = some (.int .u32 (e.s : Int)) := by rw [h.cell]; rfl
theorem ent6 {W : World} {g t : Nat} {e : En} (h : Blk W g t e.arr) : W.cell? ⟨g, 6, none⟩ = some (.int .u64 (e.n : Int)) := by rw [h.cell]; rfl
theorem lat0 {W : World} {g t : Nat} {e : La} (h : Blk W g t e.arr) : W.cell? ⟨g, 0, none⟩ = some (.int .u16 (e.c : Int)) := by rw [h.cell]; rfl
theorem lat1 {W : World} {g t : Nat} {e : La} (h : Blk W g t e.arr) : W.cell? ⟨g, 1, none⟩ = some (.int .u32 (e.t : Int)) := by rw [h.cell]; rfl
theorem load_edot {w : World} {g t : Nat} {e : En} (h : Blk w g t e.arr) : (Instr.loadAt 30 (.pointer (some ⟨g, 4, none⟩))).run Tryz.prog w = .ok (dotV e.r e.s) w := by
 have hl := run_loadVar_mid (P := Tryz.prog) w g 4 30 [.int .u8 (e.r : Int), .int .u32 (e.s : Int)] _ (by
  intro j u hu
  match j, hu with
  | 0, hu => simpa using (ent4 h).trans (by simpa using hu)
  | 1, hu => simpa using (ent5 h).trans (by simpa using hu)) Tryz.underlying30 rfl (by kernel_rfl)
 simp only [Instr.loadAt, Instr.sureAddr, Sem.run_bind, Sem.run_pure, Result.andThen_ok, hl]
section
variable {ev : Operand → Value} {o : Oper} {w : World}
theorem exec_edot {x : Operand} {g t : Nat} {e : En} (ho : o.op = .load 30 x) (hx : ev x = .pointer (some ⟨g, 4, none⟩)) (h : Blk w g t e.arr) : (execOp ev o).run Tryz.prog w = .ok (.value (dotV e.r e.s)) w := exec_cell ho hx (load_edot h)
theorem exec_gtrI {x y : Operand} {u t : TypeId} {k : IntKind} {a b : Int} {r : Bool} (ho : o.op = .binOp .gtr u x y t) (hx : ev x = .int k a) (hy : ev y = .int k b) (hr : decide (b < a) = r) : (execOp ev o).run Tryz.prog w = .ok (.value (.bool r)) w := by
 subst hr
 unfold execOp
 simp [ho, hx, hy, eqGuard, binOp, Op.intCmp]
end
theorem und72 : Tryz.prog.underlying 72 = some (.struct (Tryz.prog.fieldsOf 72)) := by kernel_rfl
theorem und36 : Tryz.prog.underlying 36 = some (.slice 72) := Tryz.underlying36
theorem size72 : (Tryz.prog.info? 72).map (·.size) = some 7 := by kernel_rfl
theorem info72 : (Tryz.prog.info? 72).map (fun i => (i.zero, i.size, i.bytes)) = some (some (.agg En.zero.arr), 7, 24) := by
 rw [show En.zero.arr = #[.int .u16 0, .int .u16 0, .int .u16 0, .int .u8 0, .int .u8 0, .int .u32 0, .int .u64 0] from rfl]; kernel_rfl
theorem info72z : (Tryz.prog.info? 72).map (fun i => (i.zero, i.size)) = some (some (.agg En.zero.arr), 7) := by
 rw [show En.zero.arr = #[.int .u16 0, .int .u16 0, .int .u16 0, .int .u8 0, .int .u8 0, .int .u32 0, .int .u64 0] from rfl]; kernel_rfl
theorem box72 (o : En) (w : World) : (Instr.box 72 (.agg o.arr)).run Tryz.prog w = .ok (.pointer (some ⟨w.heap.size, 0, none⟩)) (w.alloc (.cells o.arr 72)) := by
 simp [Instr.box, newVar, newRow, Value.cells, go_sem]
theorem alloc72 (w : World) : (Instr.alloc 72 true (.tuple #[])).run Tryz.prog w = .ok (.pointer (some ⟨w.heap.size, 0, none⟩)) (w.alloc (.cells En.zero.arr 72)) := by
 simp only [Instr.alloc, Sem.run_bind, (zero_of_info info72z).1, Result.andThen_ok]
 simp [newVar, newRow, Value.cells, go_sem]
theorem loadVar72 {w : World} {g : Nat} {o : En} (h : Blk w g 72 o.arr) : (loadVar 72 ⟨g, 0, none⟩).run Tryz.prog w = .ok (.agg o.arr) w :=
 run_loadVar_row _ _ 72 72 o.arr (0, 0) _ h und72 rfl (by rw [o.arr_size]; exact size72)
theorem load72 {w : World} {g : Nat} {o : En} (h : Blk w g 72 o.arr) : (Instr.loadAt 72 (.pointer (some ⟨g, 0, none⟩))).run Tryz.prog w = .ok (.agg o.arr) w := by
 simp only [Instr.loadAt, Instr.sureAddr, Sem.run_bind, Sem.run_pure, Result.andThen]
 exact loadVar72 h
theorem store72 {w : World} {g : Nat} {o u : En} (h : Blk w g 72 o.arr) : (Instr.storeAt 72 (.pointer (some ⟨g, 0, none⟩)) (.agg u.arr)).run Tryz.prog w = .ok () (w.setRow g u.arr) := by
 simp only [Instr.storeAt, Instr.sureAddr, Sem.run_bind, Sem.run_pure, Result.andThen]
 exact run_storeVar_row _ _ 72 72 o.arr u.arr h (by rw [u.arr_size]; exact size72) (by rw [o.arr_size, u.arr_size]) u.arr_one
section
variable {ev : Operand → Value} {q : Oper} {w : World}
theorem exec_load72 {x : Operand} {g : Nat} {p : En} (ho : q.op = .load 72 x) (hx : ev x = .pointer (some ⟨g, 0, none⟩)) (h : Blk w g 72 p.arr) : (execOp ev q).run Tryz.prog w = .ok (.value (.agg p.arr)) w := exec_cell ho hx (load72 h)
theorem exec_store72 {x y : Operand} {g : Nat} {p u : En} (ho : q.op = .store 72 x y) (hx : ev x = .pointer (some ⟨g, 0, none⟩)) (hy : ev y = .agg u.arr) (h : Blk w g 72 p.arr) : (execOp ev q).run Tryz.prog w = .ok .skip (w.setRow g u.arr) := by
 unfold execOp
 simp only [ho, hx, hy, Sem.run_bind, store72 (u := u) h, Result.andThen_ok]
 rfl
theorem exec_alloc72z {z : En} (hz : En.zero = z) (ho : q.op = .alloc 72) : (execOp ev q).run Tryz.prog w = .ok (.value (.pointer (some ⟨w.heap.size, 0, none⟩))) (w.alloc (.cells z.arr 72)) := by
 subst hz
 unfold execOp
 simp only [ho, Sem.run_bind, alloc72, Result.andThen_ok]
 rfl
theorem exec_idx72 {x y : Operand} {b off n cap i : Nat} {z : Int} (ho : q.op = .indexAddr 36 x y) (hx : ev x = .slice (some ⟨b, off, none⟩) n cap) (hy : ev y = .int .i64 z) (hz : z = (i : Int)) (hi : i < n) : (execOp ev q).run Tryz.prog w = .ok (.value (.pointer (some ⟨b, off + i * 7, none⟩))) w := by
 subst hz
 have u := und36
 have z1 : ∀ w, (Go.sizeOf 72).run Tryz.prog w = .ok 7 w := Tryz.sizeOf72
 unfold execOp
 simp only [ho, hx, hy]
 go_simp
theorem exec_ld72 {x : Operand} {b off : Nat} {p : En} (ho : q.op = .load 72 x) (hx : ev x = .pointer (some ⟨b, off, none⟩)) (h : w.rangeAt b off p.cs) : (execOp ev q).run Tryz.prog w = .ok (.value (.agg p.arr)) w := by
 have hl := run_loadVar_mid (P := Tryz.prog) w b off 72 p.cs _ h und72 rfl (by rw [p.cs_len]; exact size72)
 refine exec_cell ho hx ?_
 simp only [Instr.loadAt, Instr.sureAddr, Sem.run_bind, Sem.run_pure, Result.andThen_ok, hl]
end
section
variable {ops : Array Oper} {rest : List Oper} {o : Oper} {act : Act} {Q : Exit → Act → World → Prop} {W : World}
theorem wpList_stop72 {x y : Operand} (_ho : o.op = .store 72 x y) (k : Halt_ (wpList Tryz.prog ops Q (o :: rest) act W)) : wpList Tryz.prog ops Q (o :: rest) act W := k.out
end
theorem bs72 (p : En) (w : World) : (Instr.buildSlice 36 1 #[(0, .agg p.arr)]).run Tryz.prog w = .ok (.slice (some ⟨w.heap.size, 0, none⟩) 1 1) (w.alloc (.cells p.arr 72)) := by
 obtain ⟨i0, hi, hz0, hz1, hz2⟩ := info_parts info72
 refine run_buildSlice w 36 72 1 _ _ i0 _ und36 hi hz0 (by rw [hz1]; omega) (by rw [hz1]; omega) ?_
 rw [hz1]
 kernel_rfl
theorem exec_bs72 {ev : Operand → Value} {q : Oper} {w : World} {x : Operand} {p : En} (ho : q.op = .buildSlice 36 1 #[(0, x)]) (hx : ev x = .agg p.arr) : (execOp ev q).run Tryz.prog w = .ok (.value (.slice (some ⟨w.heap.size, 0, none⟩) 1 1)) (w.alloc (.cells p.arr 72)) := by
 have hm : (#[((0 : Nat), x)]).map (fun (i, x) => (i, ev x)) = #[(0, Value.agg p.arr)] := by simp [hx]
 unfold execOp
 simp only [ho, hm, Sem.run_bind, bs72 p w, Result.andThen_ok]
 rfl
theorem und96 : Tryz.prog.underlying 96 = some (.struct (Tryz.prog.fieldsOf 96)) := by kernel_rfl
theorem und37 : Tryz.prog.underlying 37 = some (.slice 96) := Tryz.underlying37
theorem size96 : (Tryz.prog.info? 96).map (·.size) = some 2 := by kernel_rfl
theorem info96 : (Tryz.prog.info? 96).map (fun i => (i.zero, i.size, i.bytes)) = some (some (.agg La.zero.arr), 2, 8) := by
 rw [show La.zero.arr = #[.int .u16 0, .int .u32 0] from rfl]; kernel_rfl
theorem info96z : (Tryz.prog.info? 96).map (fun i => (i.zero, i.size)) = some (some (.agg La.zero.arr), 2) := by
 rw [show La.zero.arr = #[.int .u16 0, .int .u32 0] from rfl]; kernel_rfl
theorem box96 (o : La) (w : World) : (Instr.box 96 (.agg o.arr)).run Tryz.prog w = .ok (.pointer (some ⟨w.heap.size, 0, none⟩)) (w.alloc (.cells o.arr 96)) := by
 simp [Instr.box, newVar, newRow, Value.cells, go_sem]
theorem alloc96 (w : World) : (Instr.alloc 96 true (.tuple #[])).run Tryz.prog w = .ok (.pointer (some ⟨w.heap.size, 0, none⟩)) (w.alloc (.cells La.zero.arr 96)) := by
 simp only [Instr.alloc, Sem.run_bind, (zero_of_info info96z).1, Result.andThen_ok]
 simp [newVar, newRow, Value.cells, go_sem]
theorem store96 {w : World} {g : Nat} {o u : La} (h : Blk w g 96 o.arr) : (Instr.storeAt 96 (.pointer (some ⟨g, 0, none⟩)) (.agg u.arr)).run Tryz.prog w = .ok () (w.setRow g u.arr) := by
 simp only [Instr.storeAt, Instr.sureAddr, Sem.run_bind, Sem.run_pure, Result.andThen]
 exact run_storeVar_row _ _ 96 96 o.arr u.arr h (by rw [u.arr_size]; exact size96) (by rw [o.arr_size, u.arr_size]) u.arr_one
section
variable {ev : Operand → Value} {q : Oper} {w : World}
theorem exec_store96 {x y : Operand} {g : Nat} {p u : La} (ho : q.op = .store 96 x y) (hx : ev x = .pointer (some ⟨g, 0, none⟩)) (hy : ev y = .agg u.arr) (h : Blk w g 96 p.arr) : (execOp ev q).run Tryz.prog w = .ok .skip (w.setRow g u.arr) := by
 unfold execOp
 simp only [ho, hx, hy, Sem.run_bind, store96 (u := u) h, Result.andThen_ok]
 rfl
theorem exec_alloc96z {z : La} (hz : La.zero = z) (ho : q.op = .alloc 96) : (execOp ev q).run Tryz.prog w = .ok (.value (.pointer (some ⟨w.heap.size, 0, none⟩))) (w.alloc (.cells z.arr 96)) := by
 subst hz
 unfold execOp
 simp only [ho, Sem.run_bind, alloc96, Result.andThen_ok]
 rfl
theorem exec_idx96 {x y : Operand} {b off n cap i : Nat} {z : Int} (ho : q.op = .indexAddr 37 x y) (hx : ev x = .slice (some ⟨b, off, none⟩) n cap) (hy : ev y = .int .i64 z) (hz : z = (i : Int)) (hi : i < n) : (execOp ev q).run Tryz.prog w = .ok (.value (.pointer (some ⟨b, off + i * 2, none⟩))) w := by
 subst hz
 have u := und37
 have z1 : ∀ w, (Go.sizeOf 96).run Tryz.prog w = .ok 2 w := Tryz.sizeOf96
 unfold execOp
 simp only [ho, hx, hy]
 go_simp
theorem exec_ld96 {x : Operand} {b off : Nat} {p : La} (ho : q.op = .load 96 x) (hx : ev x = .pointer (some ⟨b, off, none⟩)) (h : w.rangeAt b off p.cs) : (execOp ev q).run Tryz.prog w = .ok (.value (.agg p.arr)) w := by
 have hl := run_loadVar_mid (P := Tryz.prog) w b off 96 p.cs _ h und96 rfl (by rw [p.cs_len]; exact size96)
 refine exec_cell ho hx ?_
 simp only [Instr.loadAt, Instr.sureAddr, Sem.run_bind, Sem.run_pure, Result.andThen_ok, hl]
end
section
variable {ops : Array Oper} {rest : List Oper} {o : Oper} {act : Act} {Q : Exit → Act → World → Prop} {W : World}
theorem wpList_stop96 {x y : Operand} (_ho : o.op = .store 96 x y) (k : Halt_ (wpList Tryz.prog ops Q (o :: rest) act W)) : wpList Tryz.prog ops Q (o :: rest) act W := k.out
end
theorem bs96 (p : La) (w : World) : (Instr.buildSlice 37 1 #[(0, .agg p.arr)]).run Tryz.prog w = .ok (.slice (some ⟨w.heap.size, 0, none⟩) 1 1) (w.alloc (.cells p.arr 96)) := by
 obtain ⟨i0, hi, hz0, hz1, hz2⟩ := info_parts info96
 refine run_buildSlice w 37 96 1 _ _ i0 _ und37 hi hz0 (by rw [hz1]; omega) (by rw [hz1]; omega) ?_
 rw [hz1]
 kernel_rfl
theorem exec_bs96 {ev : Operand → Value} {q : Oper} {w : World} {x : Operand} {p : La} (ho : q.op = .buildSlice 37 1 #[(0, x)]) (hx : ev x = .agg p.arr) : (execOp ev q).run Tryz.prog w = .ok (.value (.slice (some ⟨w.heap.size, 0, none⟩) 1 1)) (w.alloc (.cells p.arr 96)) := by
 have hm : (#[((0 : Nat), x)]).map (fun (i, x) => (i, ev x)) = #[(0, Value.agg p.arr)] := by simp [hx]
 unfold execOp
 simp only [ho, hm, Sem.run_bind, bs96 p w, Result.andThen_ok]
 rfl
end Go.Proofs.YtnekpgmgnepdoaaGreat
end
section
namespace Go.Proofs.YtnekpgmgnepdoaaGreat
open Go.RowKit Go.Sort
def cmpN (x y : Nat) : Int := if x < y then -1 else if y < x then 1 else 0
def orI (a b : Int) : Int := if a = 0 then b else a
theorem nan16 (x : Nat) (w : World) : Calls Tryz.prog 138 #[.int .u16 (x : Int)] w fun e w' => e = .returned (.bool false) ∧ w = w' := by
 go_enter Tryz.func138, Tryz.ntmps138
 go_wp2_with fail
 go_ret
 exact ⟨by simp, rfl⟩
set_option maxRecDepth 100000 in
theorem cmp16 (x y : Nat) (w : World) : Calls Tryz.prog 105 #[.int .u16 (x : Int), .int .u16 (y : Int)] w fun e w' => e = .returned (.int .i64 (cmpN x y)) ∧ w = w' := by
 have n1 := fun w => nan16 x w
 have n2 := fun w => nan16 y w
 rcases Nat.lt_trichotomy x y with h | h | h
 ·have HE := Lib.hid (show cmpN x y = -1 by simp [cmpN, h])
  go_enter Tryz.func105, Tryz.ntmps105
  go_wp2_with (first | (go_at_call 138; refine (n1 _).mono ?_; rintro e w' ⟨rfl, rfl⟩) | (go_at_call 138; refine (n2 _).mono ?_; rintro e w' ⟨rfl, rfl⟩))
  go_ret
  exact ⟨ret_int HE.out.symm, rfl⟩
 ·subst h
  have HE := Lib.hid (show cmpN x x = 0 by simp [cmpN])
  clear n2
  go_enter Tryz.func105, Tryz.ntmps105
  go_wp2_with (go_at_call 138; refine (n1 _).mono ?_; rintro e w' ⟨rfl, rfl⟩)
  go_ret
  exact ⟨ret_int HE.out.symm, rfl⟩
 ·have HE := Lib.hid (show cmpN x y = 1 by simp [cmpN, h]; omega)
  go_enter Tryz.func105, Tryz.ntmps105
  go_wp2_with (first | (go_at_call 138; refine (n1 _).mono ?_; rintro e w' ⟨rfl, rfl⟩) | (go_at_call 138; refine (n2 _).mono ?_; rintro e w' ⟨rfl, rfl⟩))
  go_ret
  exact ⟨ret_int HE.out.symm, rfl⟩
theorem nan8 (x : Nat) (w : World) : Calls Tryz.prog 175 #[.int .u8 (x : Int)] w fun e w' => e = .returned (.bool false) ∧ w = w' := by
 go_enter Tryz.func175, Tryz.ntmps175
 go_wp2_with fail
 go_ret
 exact ⟨by simp, rfl⟩
set_option maxRecDepth 100000 in
theorem cmp8 (x y : Nat) (w : World) : Calls Tryz.prog 143 #[.int .u8 (x : Int), .int .u8 (y : Int)] w fun e w' => e = .returned (.int .i64 (cmpN x y)) ∧ w = w' := by
 have n1 := fun w => nan8 x w
 have n2 := fun w => nan8 y w
 rcases Nat.lt_trichotomy x y with h | h | h
 ·have HE := Lib.hid (show cmpN x y = -1 by simp [cmpN, h])
  go_enter Tryz.func143, Tryz.ntmps143
  go_wp2_with (first | (go_at_call 175; refine (n1 _).mono ?_; rintro e w' ⟨rfl, rfl⟩) | (go_at_call 175; refine (n2 _).mono ?_; rintro e w' ⟨rfl, rfl⟩))
  go_ret
  exact ⟨ret_int HE.out.symm, rfl⟩
 ·subst h
  have HE := Lib.hid (show cmpN x x = 0 by simp [cmpN])
  clear n2
  go_enter Tryz.func143, Tryz.ntmps143
  go_wp2_with (go_at_call 175; refine (n1 _).mono ?_; rintro e w' ⟨rfl, rfl⟩)
  go_ret
  exact ⟨ret_int HE.out.symm, rfl⟩
 ·have HE := Lib.hid (show cmpN x y = 1 by simp [cmpN, h]; omega)
  go_enter Tryz.func143, Tryz.ntmps143
  go_wp2_with (first | (go_at_call 175; refine (n1 _).mono ?_; rintro e w' ⟨rfl, rfl⟩) | (go_at_call 175; refine (n2 _).mono ?_; rintro e w' ⟨rfl, rfl⟩))
  go_ret
  exact ⟨ret_int HE.out.symm, rfl⟩
theorem nan32 (x : Nat) (w : World) : Calls Tryz.prog 139 #[.int .u32 (x : Int)] w fun e w' => e = .returned (.bool false) ∧ w = w' := by
 go_enter Tryz.func139, Tryz.ntmps139
 go_wp2_with fail
 go_ret
 exact ⟨by simp, rfl⟩
set_option maxRecDepth 100000 in
theorem cmp32 (x y : Nat) (w : World) : Calls Tryz.prog 106 #[.int .u32 (x : Int), .int .u32 (y : Int)] w fun e w' => e = .returned (.int .i64 (cmpN x y)) ∧ w = w' := by
 have n1 := fun w => nan32 x w
 have n2 := fun w => nan32 y w
 rcases Nat.lt_trichotomy x y with h | h | h
 ·have HE := Lib.hid (show cmpN x y = -1 by simp [cmpN, h])
  go_enter Tryz.func106, Tryz.ntmps106
  go_wp2_with (first | (go_at_call 139; refine (n1 _).mono ?_; rintro e w' ⟨rfl, rfl⟩) | (go_at_call 139; refine (n2 _).mono ?_; rintro e w' ⟨rfl, rfl⟩))
  go_ret
  exact ⟨ret_int HE.out.symm, rfl⟩
 ·subst h
  have HE := Lib.hid (show cmpN x x = 0 by simp [cmpN])
  clear n2
  go_enter Tryz.func106, Tryz.ntmps106
  go_wp2_with (go_at_call 139; refine (n1 _).mono ?_; rintro e w' ⟨rfl, rfl⟩)
  go_ret
  exact ⟨ret_int HE.out.symm, rfl⟩
 ·have HE := Lib.hid (show cmpN x y = 1 by simp [cmpN, h]; omega)
  go_enter Tryz.func106, Tryz.ntmps106
  go_wp2_with (first | (go_at_call 139; refine (n1 _).mono ?_; rintro e w' ⟨rfl, rfl⟩) | (go_at_call 139; refine (n2 _).mono ?_; rintro e w' ⟨rfl, rfl⟩))
  go_ret
  exact ⟨ret_int HE.out.symm, rfl⟩
theorem nan64 (x : Nat) (w : World) : Calls Tryz.prog 165 #[.int .u64 (x : Int)] w fun e w' => e = .returned (.bool false) ∧ w = w' := by
 go_enter Tryz.func165, Tryz.ntmps165
 go_wp2_with fail
 go_ret
 exact ⟨by simp, rfl⟩
set_option maxRecDepth 100000 in
theorem cmp64 (x y : Nat) (w : World) : Calls Tryz.prog 140 #[.int .u64 (x : Int), .int .u64 (y : Int)] w fun e w' => e = .returned (.int .i64 (cmpN x y)) ∧ w = w' := by
 have n1 := fun w => nan64 x w
 have n2 := fun w => nan64 y w
 rcases Nat.lt_trichotomy x y with h | h | h
 ·have HE := Lib.hid (show cmpN x y = -1 by simp [cmpN, h])
  go_enter Tryz.func140, Tryz.ntmps140
  go_wp2_with (first | (go_at_call 165; refine (n1 _).mono ?_; rintro e w' ⟨rfl, rfl⟩) | (go_at_call 165; refine (n2 _).mono ?_; rintro e w' ⟨rfl, rfl⟩))
  go_ret
  exact ⟨ret_int HE.out.symm, rfl⟩
 ·subst h
  have HE := Lib.hid (show cmpN x x = 0 by simp [cmpN])
  clear n2
  go_enter Tryz.func140, Tryz.ntmps140
  go_wp2_with (go_at_call 165; refine (n1 _).mono ?_; rintro e w' ⟨rfl, rfl⟩)
  go_ret
  exact ⟨ret_int HE.out.symm, rfl⟩
 ·have HE := Lib.hid (show cmpN x y = 1 by simp [cmpN, h]; omega)
  go_enter Tryz.func140, Tryz.ntmps140
  go_wp2_with (first | (go_at_call 165; refine (n1 _).mono ?_; rintro e w' ⟨rfl, rfl⟩) | (go_at_call 165; refine (n2 _).mono ?_; rintro e w' ⟨rfl, rfl⟩))
  go_ret
  exact ⟨ret_int HE.out.symm, rfl⟩
set_option maxHeartbeats 1000000 in
theorem or_any (g : Nat) (a b : Int) (w : World) (h0 : w.cell? ⟨g, 0, none⟩ = some (.int .i64 a)) (h1 : w.cell? ⟨g, 1, none⟩ = some (.int .i64 b)) :
  Calls Tryz.prog 104 #[.slice (some ⟨g, 0, none⟩) 2 2] w fun e w' => e = .returned (.int .i64 (orI a b)) ∧ w = w' := by
 go_enter Tryz.func104, Tryz.ntmps104
 go_wp2_with fail
 go_loop [8] (fun i => ∃ k : Nat, k ≤ 2 ∧ i = .int .i64 (k : Int) ∧ Hid (1 ≤ k → a = 0) ∧ Hid (2 ≤ k → b = 0)) (fun i => 2 - (intOf i).toNat)
 case atStart => exact ⟨0, by omega, rfl, Lib.hid (fun h => by omega), Lib.hid (fun h => by omega)⟩
 case round =>
  obtain ⟨k, hk, rfl, HA, HB⟩ := hrel
  by_cases e0 : k = 0
  ·subst e0
   by_cases ha : a = 0
   ·subst ha
    go_wp2_with fail
    go_round
    case rel => exact ⟨1, by omega, by go_num, Lib.hid (by simp), Lib.hid (fun h => by omega)⟩
    case measure => simp [intOf]
   ·have HE := Lib.hid (show orI a b = a by rw [orI, if_neg ha])
    go_wp2_with fail
    go_ret
    exact ⟨ret_int HE.out.symm, rfl⟩
  ·by_cases e1 : k = 1
   ·subst e1
    have HE := Lib.hid (show orI a b = b by rw [orI, if_pos (HA.out (by omega))])
    by_cases hb : b = 0
    ·have HB0 := Lib.hid hb
     subst hb
     go_wp2_with fail
     go_round
     case rel => exact ⟨2, by omega, by go_num, Lib.hid (fun _ => HA.out (by omega)), Lib.hid (by simp)⟩
     case measure => simp [intOf]
    ·have hb' : (b != 0) = true := by simp [hb]
     go_wp2_with fail
     go_ret
     exact ⟨ret_int HE.out.symm, rfl⟩
   ·obtain rfl : k = 2 := by omega
    have HE := Lib.hid (show orI a b = 0 by rw [orI, if_pos (HA.out (by omega)), HB.out (by omega)])
    go_wp2_with fail
    go_ret
    exact ⟨ret_int HE.out.symm, rfl⟩
def Grew (w w' : World) : Prop := ∃ q os, w' = grow (w.drewN q) os
theorem Grew.alloc {w w' : World} (h : Grew w w') (o : Obj) : Grew w (w'.alloc o) := by
 obtain ⟨q, os, rfl⟩ := h
 exact ⟨q, os ++ #[o], by rw [alloc_eq_grow, grow_grow]⟩
theorem Grew.drew {w w' : World} (h : Grew w w') : Grew w w'.drew := by
 obtain ⟨q, os, rfl⟩ := h
 exact ⟨q + 1, os, rfl⟩
theorem Grew.refl (w : World) : Grew w w := ⟨0, #[], (grow_empty _).symm⟩
theorem Grew.trans {a b c : World} (h : Grew a b) (k : Grew b c) : Grew a c := by
 obtain ⟨q, os, rfl⟩ := h
 obtain ⟨q2, os2, rfl⟩ := k
 exact ⟨q + q2, os ++ os2, by rw [← grow_grow]; simp [grow, World.drewN, Nat.add_assoc]⟩
theorem Grew.below {w w' : World} (h : Grew w w') : Below w.heap.size w w' := by
 obtain ⟨q, os, rfl⟩ := h
 exact ⟨rfl, rfl, rfl, by simp [grow, World.drewN], fun k hk => by simp [grow, World.drewN, Array.getElem?_append, hk]⟩
theorem Blk.grew {w w' : World} {g : Nat} {t : TypeId} {cs : Array Value} (h : Blk w g t cs) (k : Grew w w') : Blk w' g t cs := h.below k.below
structure Gw (w W : World) (t : TypeId) (x y : Array Value) : Prop where
 one : Blk W w.heap.size t x
 two : Blk W (w.heap.size + 1) t y
 old : Grew w W
theorem gw_new (w : World) (t : TypeId) (x y : Array Value) : Gw w ((w.alloc (.cells x t)).alloc (.cells y t)) t x y := by
 have h1 := Blk.new w t x
 have h2 := Blk.new (w.alloc (.cells x t)) t y
 have k2 := Kept.alloc (fun _ => False) (w.alloc (.cells x t)) (.cells y t)
 simp only [World.size_alloc] at h2
 exact ⟨h1.kept k2 (fun h => h), h2, ((Grew.refl w).alloc _).alloc _⟩
theorem Gw.grew {w W W' : World} {t : TypeId} {x y : Array Value} (h : Gw w W t x y) (k : Grew W W') : Gw w W' t x y := ⟨h.one.grew k, h.two.grew k, h.old.trans k⟩
theorem Gw.drew {w W : World} {t : TypeId} {x y : Array Value} (h : Gw w W t x y) : Gw w W.drew t x y := h.grew (Grew.refl _).drew
theorem Gw.alloc {w W : World} {t : TypeId} {x y : Array Value} (h : Gw w W t x y) (o : Obj) : Gw w (W.alloc o) t x y := h.grew ((Grew.refl _).alloc o)
theorem exec_two {ev : Operand → Value} {o : Oper} {x y : Operand} {w : World} {a b : Int} (ho : o.op = .buildSlice 186 2 #[(0, x), (1, y)]) (hx : ev x = .int .i64 a) (hy : ev y = .int .i64 b) :
  (execOp ev o).run Tryz.prog w = .ok (.value (.slice (some ⟨w.heap.size, 0, none⟩) 2 2)) (w.alloc (.cells #[.int .i64 a, .int .i64 b] 3)) := by
 unfold execOp
 simp only [ho]
 simp [Instr.buildSlice, go_sem, hx, hy, Instr.fill, newRow, Value.cells]
def CmpP (z : Int) (w : World) (e : Ending) (w' : World) : Prop := e = .returned (.int .i64 z) ∧ Grew w w'
def cmpD (a b c d : Nat) : Int := orI (cmpN a c) (cmpN b d)
set_option maxHeartbeats 1000000 in
theorem orderDots_any (x1 x2 y1 y2 : Nat) (w : World) : Calls Tryz.prog 126 #[.agg #[.int .u8 (x1 : Int), .int .u32 (x2 : Int)], .agg #[.int .u8 (y1 : Int), .int .u32 (y2 : Int)]] w (CmpP (cmpD x1 x2 y1 y2) w) := by
 have n1 := fun w => cmp8 x1 y1 w
 have n2 := fun w => cmp32 x2 y2 w
 have HE : Hid (orI (cmpN x1 y1) (cmpN x2 y2) = cmpD x1 x2 y1 y2) := Lib.hid rfl
 generalize cmpN x1 y1 = a at n1 HE
 generalize cmpN x2 y2 = b at n2 HE
 generalize cmpD x1 x2 y1 y2 = c at HE
 go_enter Tryz.func126, Tryz.ntmps126
 go_wp2_with fail
 skip
 have HT := Lib.hid (gw_new w 30 #[.int .u8 (x1 : Int), .int .u32 (x2 : Int)] #[.int .u8 (y1 : Int), .int .u32 (y2 : Int)])
 generalize (w.alloc (.cells #[.int .u8 (x1 : Int), .int .u32 (x2 : Int)] 30)).alloc (.cells #[.int .u8 (y1 : Int), .int .u32 (y2 : Int)] 30) = W at HT
 refine wp_region_held_drew (S := fun w' => Gw w w' 30 #[.int .u8 (x1 : Int), .int .u32 (x2 : Int)] #[.int .u8 (y1 : Int), .int .u32 (y2 : Int)]) (by kernel_rfl) HT.out.drew (fun hS => ?_)
 refine held_tk 0 5 (.pointer (some ⟨w.heap.size, 0, none⟩)) rfl rfl (by kernel_rfl) (fun _ _ _ h => h) (fun _ _ => (by kernel_rfl)) hS ?_
 simp only [Act.put, ap1, ap2, ap3]
 refine held_tk 1 6 (.int .u8 (x1 : Int)) rfl rfl (by kernel_rfl) (fun _ _ _ h => h) (fun _ h => exec_cell rfl rfl (load_cell (by kernel_rfl) (h.one.cell 0))) hS ?_
 simp only [Act.put, ap1, ap2, ap3]
 refine held_tk 2 7 (.pointer (some ⟨w.heap.size + 1, 0, none⟩)) rfl rfl (by kernel_rfl) (fun _ _ _ h => h) (fun _ _ => (by kernel_rfl)) hS ?_
 simp only [Act.put, ap1, ap2, ap3]
 refine held_tk 3 8 (.int .u8 (y1 : Int)) rfl rfl (by kernel_rfl) (fun _ _ _ h => h) (fun _ h => exec_cell rfl rfl (load_cell (by kernel_rfl) (h.two.cell 0))) hS ?_
 simp only [Act.put, ap1, ap2, ap3]
 refine held_tk 5 10 (.pointer (some ⟨w.heap.size, 1, none⟩)) rfl rfl (by kernel_rfl) (fun _ _ _ h => h) (fun _ _ => (by kernel_rfl)) hS ?_
 simp only [Act.put, ap1, ap2, ap3]
 refine held_tk 6 11 (.int .u32 (x2 : Int)) rfl rfl (by kernel_rfl) (fun _ _ _ h => h) (fun _ h => exec_cell rfl rfl (load_cell (by kernel_rfl) (h.one.cell 1))) hS ?_
 simp only [Act.put, ap1, ap2, ap3]
 refine held_tk 7 12 (.pointer (some ⟨w.heap.size + 1, 1, none⟩)) rfl rfl (by kernel_rfl) (fun _ _ _ h => h) (fun _ _ => (by kernel_rfl)) hS ?_
 simp only [Act.put, ap1, ap2, ap3]
 refine held_tk 8 13 (.int .u32 (y2 : Int)) rfl rfl (by kernel_rfl) (fun _ _ _ h => h) (fun _ h => exec_cell rfl rfl (load_cell (by kernel_rfl) (h.two.cell 1))) hS ?_
 simp only [Act.put, ap1, ap2, ap3]
 refine held_pure 4 9 143 #[(.int .u8 (x1 : Int)), (.int .u8 (y1 : Int))] (.int .i64 a) rfl (by kernel_rfl) rfl (by kernel_rfl) (by kernel_rfl) (n1 _) hS ?_
 simp only [Act.put, ap1, ap2, ap3]
 refine held_pure 9 14 106 #[(.int .u32 (x2 : Int)), (.int .u32 (y2 : Int))] (.int .i64 b) rfl (by kernel_rfl) rfl (by kernel_rfl) (by kernel_rfl) (n2 _) hS ?_
 simp only [Act.put, ap1, ap2, ap3]
 have hS2 := hS.alloc (.cells #[.int .i64 a, .int .i64 b] 3)
 have c1 := (Blk.new W.drew 3 #[.int .i64 a, .int .i64 b]).cell 0
 have c2 := (Blk.new W.drew 3 #[.int .i64 a, .int .i64 b]).cell 1
 have hor := or_any W.drew.heap.size a b _ c1 c2
 rw [HE.out] at hor
 refine held_exec 10 15 (.slice (some ⟨W.drew.heap.size, 0, none⟩) 2 2) rfl rfl (by kernel_rfl) (by kernel_rfl) (exec_two rfl rfl rfl) hS2 ?_
 simp only [Act.put, ap1, ap2, ap3]
 refine held_pure 11 16 104 #[.slice (some ⟨W.drew.heap.size, 0, none⟩) 2 2] (.int .i64 c) rfl (by kernel_rfl) rfl (by kernel_rfl) (by kernel_rfl) hor hS2 ?_
 simp only [Act.put, ap1, ap2, ap3]
 refine held_tk 12 4 (.int .i64 c) rfl rfl (by kernel_rfl) (fun _ _ _ h => h) (fun _ _ => rfl) hS2 ?_
 simp only [Act.put, ap1, ap2, ap3]
 refine wpAnyH_done (by kernel_rfl) ?_ _
 go_wp2_with fail
 go_ret
 exact ⟨rfl, hS2.old⟩
theorem ord_eq (x y : En) : orI (cmpN x.c y.c) (cmpD x.r x.s y.r y.s) = En.ord x y := by
 unfold En.ord cmpD orI cmpN
 repeat' split
 all_goals first | rfl | omega
theorem less_eq (x y : En) : decide (orI (cmpN x.n y.n) (cmpD x.r x.s y.r y.s) < 0) = En.lessB x y := by
 unfold En.lessB cmpD orI cmpN
 rw [Bool.eq_iff_iff, decide_eq_true_eq, decide_eq_true_eq]
 repeat' split
 all_goals omega
def ordL (x y : La) : Int := orI (cmpN x.c y.c) (cmpN y.t x.t)
set_option maxHeartbeats 1000000 in
theorem order_any (x y : En) (w : World) : Calls Tryz.prog 91 #[.agg x.arr, .agg y.arr] w (CmpP (En.ord x y) w) := by
 have hb1 := fun (o : En) w => box72 o w
 have n1 := fun w => cmp16 x.c y.c w
 have n2 := fun w => orderDots_any x.r x.s y.r y.s w
 have HE : Hid (orI (cmpN x.c y.c) (cmpD x.r x.s y.r y.s) = En.ord x y) := Lib.hid (ord_eq x y)
 generalize cmpN x.c y.c = a at n1 HE
 generalize cmpD x.r x.s y.r y.s = b at n2 HE
 generalize En.ord x y = c at HE
 go_enter Tryz.func91, Tryz.ntmps91
 go_wp2_with fail
 clear hb1
 have HT := Lib.hid (gw_new w 72 x.arr y.arr)
 generalize (w.alloc (.cells x.arr 72)).alloc (.cells y.arr 72) = W at HT
 refine wp_region_held_drew (S := fun w' => Gw w w' 72 x.arr y.arr) (by kernel_rfl) HT.out.drew (fun hS => ?_)
 refine held_tk 0 5 (.pointer (some ⟨w.heap.size, 0, none⟩)) rfl rfl (by kernel_rfl) (fun _ _ _ h => h) (fun _ _ => (by kernel_rfl)) hS ?_
 simp only [Act.put, ap1, ap2, ap3]
 refine held_tk 1 6 (.int .u16 (x.c : Int)) rfl rfl (by kernel_rfl) (fun _ _ _ h => h) (fun _ h => exec_cell rfl rfl (load_cell (by kernel_rfl) (ent0 h.one))) hS ?_
 simp only [Act.put, ap1, ap2, ap3]
 refine held_tk 2 7 (.pointer (some ⟨w.heap.size + 1, 0, none⟩)) rfl rfl (by kernel_rfl) (fun _ _ _ h => h) (fun _ _ => (by kernel_rfl)) hS ?_
 simp only [Act.put, ap1, ap2, ap3]
 refine held_tk 3 8 (.int .u16 (y.c : Int)) rfl rfl (by kernel_rfl) (fun _ _ _ h => h) (fun _ h => exec_cell rfl rfl (load_cell (by kernel_rfl) (ent0 h.two))) hS ?_
 simp only [Act.put, ap1, ap2, ap3]
 refine held_tk 5 10 (.pointer (some ⟨w.heap.size, 4, none⟩)) rfl rfl (by kernel_rfl) (fun _ _ _ h => h) (fun _ _ => (by kernel_rfl)) hS ?_
 simp only [Act.put, ap1, ap2, ap3]
 refine held_tk 6 11 (dotV x.r x.s) rfl rfl (by kernel_rfl) (fun _ _ _ h => h) (fun _ h => exec_edot (e := x) rfl rfl h.one) hS ?_
 simp only [Act.put, ap1, ap2, ap3]
 refine held_tk 7 12 (.pointer (some ⟨w.heap.size + 1, 4, none⟩)) rfl rfl (by kernel_rfl) (fun _ _ _ h => h) (fun _ _ => (by kernel_rfl)) hS ?_
 simp only [Act.put, ap1, ap2, ap3]
 refine held_tk 8 13 (dotV y.r y.s) rfl rfl (by kernel_rfl) (fun _ _ _ h => h) (fun _ h => exec_edot (e := y) rfl rfl h.two) hS ?_
 simp only [Act.put, ap1, ap2, ap3]
 refine held_pure 4 9 105 #[(.int .u16 (x.c : Int)), (.int .u16 (y.c : Int))] (.int .i64 a) rfl (by kernel_rfl) rfl (by kernel_rfl) (by kernel_rfl) (n1 _) hS ?_
 simp only [Act.put, ap1, ap2, ap3]
 refine held_callP 9 14 126 #[dotV x.r x.s, dotV y.r y.s] rfl (by kernel_rfl) rfl (by kernel_rfl) (by kernel_rfl) (n2 _) (fun e w5 hP => ?_)
 obtain ⟨rfl, hg⟩ := hP
 refine ⟨_, rfl, hS.grew hg, fun hS => ?_⟩
 clear hg
 simp only [Act.put, ap1, ap2, ap3]
 have hS2 := hS.alloc (.cells #[.int .i64 a, .int .i64 b] 3)
 have c1 := (Blk.new w5 3 #[.int .i64 a, .int .i64 b]).cell 0
 have c2 := (Blk.new w5 3 #[.int .i64 a, .int .i64 b]).cell 1
 have hor := or_any w5.heap.size a b _ c1 c2
 rw [HE.out] at hor
 refine held_exec 10 15 (.slice (some ⟨w5.heap.size, 0, none⟩) 2 2) rfl rfl (by kernel_rfl) (by kernel_rfl) (exec_two rfl rfl rfl) hS2 ?_
 simp only [Act.put, ap1, ap2, ap3]
 refine held_pure 11 16 104 #[.slice (some ⟨w5.heap.size, 0, none⟩) 2 2] (.int .i64 c) rfl (by kernel_rfl) rfl (by kernel_rfl) (by kernel_rfl) hor hS2 ?_
 simp only [Act.put, ap1, ap2, ap3]
 refine held_tk 12 4 (.int .i64 c) rfl rfl (by kernel_rfl) (fun _ _ _ h => h) (fun _ _ => rfl) hS2 ?_
 simp only [Act.put, ap1, ap2, ap3]
 refine wpAnyH_done (by kernel_rfl) ?_ _
 go_wp2_with fail
 go_ret
 exact ⟨rfl, hS2.old⟩
set_option maxHeartbeats 1000000 in
theorem eless_any (x y : En) (w : World) : Calls Tryz.prog 111 #[.agg x.arr, .agg y.arr] w (fun e w' => e = .returned (.bool (En.lessB x y)) ∧ Grew w w') := by
 have hb1 := fun (o : En) w => box72 o w
 have n1 := fun w => cmp64 x.n y.n w
 have n2 := fun w => orderDots_any x.r x.s y.r y.s w
 have HL := Lib.hid (less_eq x y)
 obtain ⟨c0, hc0⟩ : ∃ c, orI (cmpN x.n y.n) (cmpD x.r x.s y.r y.s) = c := ⟨_, rfl⟩
 rw [hc0] at HL
 have HE := Lib.hid hc0
 clear hc0
 generalize cmpN x.n y.n = a at n1 HE
 generalize cmpD x.r x.s y.r y.s = b at n2 HE
 generalize c0 = c at HE HL
 go_enter Tryz.func111, Tryz.ntmps111
 go_wp2_with fail
 clear hb1
 have HT := Lib.hid (gw_new w 72 x.arr y.arr)
 generalize (w.alloc (.cells x.arr 72)).alloc (.cells y.arr 72) = W at HT
 refine wp_region_held_drew (S := fun w' => Gw w w' 72 x.arr y.arr) (by kernel_rfl) HT.out.drew (fun hS => ?_)
 refine held_tk 0 5 (.pointer (some ⟨w.heap.size, 6, none⟩)) rfl rfl (by kernel_rfl) (fun _ _ _ h => h) (fun _ _ => (by kernel_rfl)) hS ?_
 simp only [Act.put, ap1, ap2, ap3]
 refine held_tk 1 6 (.int .u64 (x.n : Int)) rfl rfl (by kernel_rfl) (fun _ _ _ h => h) (fun _ h => exec_cell rfl rfl (load_cell (by kernel_rfl) (ent6 h.one))) hS ?_
 simp only [Act.put, ap1, ap2, ap3]
 refine held_tk 2 7 (.pointer (some ⟨w.heap.size + 1, 6, none⟩)) rfl rfl (by kernel_rfl) (fun _ _ _ h => h) (fun _ _ => (by kernel_rfl)) hS ?_
 simp only [Act.put, ap1, ap2, ap3]
 refine held_tk 3 8 (.int .u64 (y.n : Int)) rfl rfl (by kernel_rfl) (fun _ _ _ h => h) (fun _ h => exec_cell rfl rfl (load_cell (by kernel_rfl) (ent6 h.two))) hS ?_
 simp only [Act.put, ap1, ap2, ap3]
 refine held_tk 5 10 (.pointer (some ⟨w.heap.size, 4, none⟩)) rfl rfl (by kernel_rfl) (fun _ _ _ h => h) (fun _ _ => (by kernel_rfl)) hS ?_
 simp only [Act.put, ap1, ap2, ap3]
 refine held_tk 6 11 (dotV x.r x.s) rfl rfl (by kernel_rfl) (fun _ _ _ h => h) (fun _ h => exec_edot (e := x) rfl rfl h.one) hS ?_
 simp only [Act.put, ap1, ap2, ap3]
 refine held_tk 7 12 (.pointer (some ⟨w.heap.size + 1, 4, none⟩)) rfl rfl (by kernel_rfl) (fun _ _ _ h => h) (fun _ _ => (by kernel_rfl)) hS ?_
 simp only [Act.put, ap1, ap2, ap3]
 refine held_tk 8 13 (dotV y.r y.s) rfl rfl (by kernel_rfl) (fun _ _ _ h => h) (fun _ h => exec_edot (e := y) rfl rfl h.two) hS ?_
 simp only [Act.put, ap1, ap2, ap3]
 refine held_pure 4 9 140 #[(.int .u64 (x.n : Int)), (.int .u64 (y.n : Int))] (.int .i64 a) rfl (by kernel_rfl) rfl (by kernel_rfl) (by kernel_rfl) (n1 _) hS ?_
 simp only [Act.put, ap1, ap2, ap3]
 refine held_callP 9 14 126 #[dotV x.r x.s, dotV y.r y.s] rfl (by kernel_rfl) rfl (by kernel_rfl) (by kernel_rfl) (n2 _) (fun e w5 hP => ?_)
 obtain ⟨rfl, hg⟩ := hP
 refine ⟨_, rfl, hS.grew hg, fun hS => ?_⟩
 clear hg
 simp only [Act.put, ap1, ap2, ap3]
 have hS2 := hS.alloc (.cells #[.int .i64 a, .int .i64 b] 3)
 have c1 := (Blk.new w5 3 #[.int .i64 a, .int .i64 b]).cell 0
 have c2 := (Blk.new w5 3 #[.int .i64 a, .int .i64 b]).cell 1
 have hor := or_any w5.heap.size a b _ c1 c2
 rw [HE.out] at hor
 refine held_exec 10 15 (.slice (some ⟨w5.heap.size, 0, none⟩) 2 2) rfl rfl (by kernel_rfl) (by kernel_rfl) (exec_two rfl rfl rfl) hS2 ?_
 simp only [Act.put, ap1, ap2, ap3]
 refine held_pure 11 16 104 #[.slice (some ⟨w5.heap.size, 0, none⟩) 2 2] (.int .i64 c) rfl (by kernel_rfl) rfl (by kernel_rfl) (by kernel_rfl) hor hS2 ?_
 simp only [Act.put, ap1, ap2, ap3]
 refine held_tk 12 17 (.bool (decide (c < 0))) rfl rfl (by kernel_rfl) (fun _ _ _ h => h) (fun _ _ => exec_lssI rfl rfl rfl rfl) hS2 ?_
 simp only [Act.put, ap1, ap2, ap3]
 refine held_tk 13 4 (.bool (decide (c < 0))) rfl rfl (by kernel_rfl) (fun _ _ _ h => h) (fun _ _ => rfl) hS2 ?_
 simp only [Act.put, ap1, ap2, ap3]
 refine wpAnyH_done (by kernel_rfl) ?_ _
 go_wp2_with fail
 go_ret
 exact ⟨ret_bool HL.out, hS2.old⟩
set_option maxHeartbeats 1000000 in
theorem ordL_any (x y : La) (w : World) : Calls Tryz.prog 103 #[.agg x.arr, .agg y.arr] w (CmpP (ordL x y) w) := by
 have hb1 := fun (o : La) w => box96 o w
 have n1 := fun w => cmp16 x.c y.c w
 have n2 := fun w => cmp32 y.t x.t w
 have HE : Hid (orI (cmpN x.c y.c) (cmpN y.t x.t) = ordL x y) := Lib.hid rfl
 generalize cmpN x.c y.c = a at n1 HE
 generalize cmpN y.t x.t = b at n2 HE
 generalize ordL x y = c at HE
 go_enter Tryz.func103, Tryz.ntmps103
 go_wp2_with fail
 clear hb1
 have HT := Lib.hid (gw_new w 96 x.arr y.arr)
 generalize (w.alloc (.cells x.arr 96)).alloc (.cells y.arr 96) = W at HT
 refine wp_region_held_drew (S := fun w' => Gw w w' 96 x.arr y.arr) (by kernel_rfl) HT.out.drew (fun hS => ?_)
 refine held_tk 0 5 (.pointer (some ⟨w.heap.size, 0, none⟩)) rfl rfl (by kernel_rfl) (fun _ _ _ h => h) (fun _ _ => (by kernel_rfl)) hS ?_
 simp only [Act.put, ap1, ap2, ap3]
 refine held_tk 1 6 (.int .u16 (x.c : Int)) rfl rfl (by kernel_rfl) (fun _ _ _ h => h) (fun _ h => exec_cell rfl rfl (load_cell (by kernel_rfl) (lat0 h.one))) hS ?_
 simp only [Act.put, ap1, ap2, ap3]
 refine held_tk 2 7 (.pointer (some ⟨w.heap.size + 1, 0, none⟩)) rfl rfl (by kernel_rfl) (fun _ _ _ h => h) (fun _ _ => (by kernel_rfl)) hS ?_
 simp only [Act.put, ap1, ap2, ap3]
 refine held_tk 3 8 (.int .u16 (y.c : Int)) rfl rfl (by kernel_rfl) (fun _ _ _ h => h) (fun _ h => exec_cell rfl rfl (load_cell (by kernel_rfl) (lat0 h.two))) hS ?_
 simp only [Act.put, ap1, ap2, ap3]
 refine held_tk 5 10 (.pointer (some ⟨w.heap.size + 1, 1, none⟩)) rfl rfl (by kernel_rfl) (fun _ _ _ h => h) (fun _ _ => (by kernel_rfl)) hS ?_
 simp only [Act.put, ap1, ap2, ap3]
 refine held_tk 6 11 (.int .u32 (y.t : Int)) rfl rfl (by kernel_rfl) (fun _ _ _ h => h) (fun _ h => exec_cell rfl rfl (load_cell (by kernel_rfl) (lat1 h.two))) hS ?_
 simp only [Act.put, ap1, ap2, ap3]
 refine held_tk 7 12 (.pointer (some ⟨w.heap.size, 1, none⟩)) rfl rfl (by kernel_rfl) (fun _ _ _ h => h) (fun _ _ => (by kernel_rfl)) hS ?_
 simp only [Act.put, ap1, ap2, ap3]
 refine held_tk 8 13 (.int .u32 (x.t : Int)) rfl rfl (by kernel_rfl) (fun _ _ _ h => h) (fun _ h => exec_cell rfl rfl (load_cell (by kernel_rfl) (lat1 h.one))) hS ?_
 simp only [Act.put, ap1, ap2, ap3]
 refine held_pure 4 9 105 #[(.int .u16 (x.c : Int)), (.int .u16 (y.c : Int))] (.int .i64 a) rfl (by kernel_rfl) rfl (by kernel_rfl) (by kernel_rfl) (n1 _) hS ?_
 simp only [Act.put, ap1, ap2, ap3]
 refine held_pure 9 14 106 #[(.int .u32 (y.t : Int)), (.int .u32 (x.t : Int))] (.int .i64 b) rfl (by kernel_rfl) rfl (by kernel_rfl) (by kernel_rfl) (n2 _) hS ?_
 simp only [Act.put, ap1, ap2, ap3]
 have hS2 := hS.alloc (.cells #[.int .i64 a, .int .i64 b] 3)
 have c1 := (Blk.new W.drew 3 #[.int .i64 a, .int .i64 b]).cell 0
 have c2 := (Blk.new W.drew 3 #[.int .i64 a, .int .i64 b]).cell 1
 have hor := or_any W.drew.heap.size a b _ c1 c2
 rw [HE.out] at hor
 refine held_exec 10 15 (.slice (some ⟨W.drew.heap.size, 0, none⟩) 2 2) rfl rfl (by kernel_rfl) (by kernel_rfl) (exec_two rfl rfl rfl) hS2 ?_
 simp only [Act.put, ap1, ap2, ap3]
 refine held_pure 11 16 104 #[.slice (some ⟨W.drew.heap.size, 0, none⟩) 2 2] (.int .i64 c) rfl (by kernel_rfl) rfl (by kernel_rfl) (by kernel_rfl) hor hS2 ?_
 simp only [Act.put, ap1, ap2, ap3]
 refine held_tk 12 4 (.int .i64 c) rfl rfl (by kernel_rfl) (fun _ _ _ h => h) (fun _ _ => rfl) hS2 ?_
 simp only [Act.put, ap1, ap2, ap3]
 refine wpAnyH_done (by kernel_rfl) ?_ _
 go_wp2_with fail
 go_ret
 exact ⟨rfl, hS2.old⟩
set_option maxHeartbeats 1000000 in
theorem sameL_any (x y : La) (w : World) : Calls Tryz.prog 108 #[.agg x.arr, .agg y.arr] w fun e w' => e = .returned (.bool (decide (x.c = y.c))) ∧ Grew w w' := by
 have hb1 := fun (o : La) w => box96 o w
 have HT := Lib.hid (gw_new w 96 x.arr y.arr)
 go_enter Tryz.func108, Tryz.ntmps108
 go_upto_region 1 with fail
 clear hb1
 generalize (w.alloc (.cells x.arr 96)).alloc (.cells y.arr 96) = W at HT
 have c0 := lat0 HT.out.one
 have d0 := lat0 HT.out.two
 go_wp2_with fail
 go_ret
 exact ⟨ret_bool (by rw [Bool.eq_iff_iff]; simp; omega), HT.out.old⟩
set_option maxHeartbeats 1000000 in
theorem tickCmp_any (x : La) (c : Nat) (w : World) : Calls Tryz.prog 110 #[.agg x.arr, .int .u16 (c : Int)] w (CmpP (cmpN x.c c) w) := by
 have hb1 := fun (o : La) w => box96 o w
 have n1 := fun w => cmp16 x.c c w
 generalize cmpN x.c c = z at n1 ⊢
 have HT : Hid (Blk (w.alloc (.cells x.arr 96)) w.heap.size 96 x.arr) := Lib.hid (Blk.new _ _ _)
 have HG : Hid (Grew w (w.alloc (.cells x.arr 96))) := Lib.hid ((Grew.refl w).alloc _)
 go_enter Tryz.func110, Tryz.ntmps110
 go_upto_region 1 with fail
 clear hb1
 generalize w.alloc (.cells x.arr 96) = W at HT HG
 have c0 := lat0 HT.out
 go_wp2_with (go_at_call 105; refine (n1 _).mono ?_; rintro e w' ⟨rfl, rfl⟩)
 go_ret
 exact ⟨rfl, HG.out⟩
end Go.Proofs.YtnekpgmgnepdoaaGreat
end
section
namespace Go.Proofs.YtnekpgmgnepdoaaGreat
open Go.RowKit
def overL {α : Type} (l : List α) (o : Nat) (vs : List α) : List α := l.take o ++ vs ++ l.drop (o + vs.length)
theorem overL_nil {α : Type} (l : List α) (o : Nat) : overL l o [] = l := by simp [overL]
theorem overL_cons {α : Type} (l : List α) (o : Nat) (v : α) (vs : List α) (h : o < l.length) : overL (l.set o v) (o + 1) vs = overL l o (v :: vs) := by
 unfold overL
 have hl : (l.take o).length = o := by simp; omega
 have e1 : (l.set o v).take (o + 1) = l.take o ++ [v] := by
  rw [List.set_eq_take_append_cons_drop, if_pos h, List.take_append, hl, List.take_of_length_le (by rw [hl]; omega)]
  simp
 have e2 : (l.set o v).drop (o + 1 + vs.length) = l.drop (o + (v :: vs).length) := by
  rw [List.drop_set_of_lt (by omega), List.length_cons]
  congr 1
  omega
 rw [e1, e2]
 simp
theorem overL_length {α : Type} (l : List α) (o : Nat) (vs : List α) (h : o + vs.length ≤ l.length) : (overL l o vs).length = l.length := by
 simp [overL]; omega
theorem overL_one {α : Type} (l : List α) (o : Nat) (v : α) (h : o < l.length) : overL l o [v] = l.set o v := by
 rw [← overL_cons l o v [] h, overL_nil]
theorem mem_overL {α : Type} {l : List α} {o : Nat} {vs : List α} {x : α} (h : x ∈ overL l o vs) : x ∈ l ∨ x ∈ vs := by
 unfold overL at h
 rcases List.mem_append.1 h with h | h
 ·rcases List.mem_append.1 h with h | h
  ·exact .inl (List.mem_of_mem_take h)
  ·exact .inr h
 ·exact .inl (List.mem_of_mem_drop h)
theorem Blk.setCells {g : Nat} {t : TypeId} : ∀ {vs : List Value} {w : World} {cs : List Value} {o : Nat}, Blk w g t cs.toArray → o + vs.length ≤ cs.length → Blk (w.setCells g o vs) g t (overL cs o vs).toArray
 | [], w, cs, o, h, _ => by rw [overL_nil]; exact h
 | v :: vs, w, cs, o, h, hl => by
  simp only [List.length_cons] at hl
  have h1 := h.set o v
  have e : (cs.toArray.setIfInBounds o v) = (cs.set o v).toArray := by simp
  rw [e] at h1
  have h2 := Blk.setCells (vs := vs) (o := o + 1) h1 (by rw [List.length_set]; omega)
  rw [overL_cons cs o v vs (by omega)] at h2
  exact h2
theorem Kept.setCells (g : Nat) : ∀ (vs : List Value) (w : World) (o : Nat), Kept (fun k => k = g) w (w.setCells g o vs)
 | [], _, _ => Kept.refl _ _
 | v :: vs, w, o => (Kept.setCell w ⟨g, o, .none⟩ v).trans (Kept.setCells g vs _ (o + 1)) (fun _ h => .inl h)
theorem flat_len {size : Nat} : ∀ {vs : List (List Value)}, (∀ v ∈ vs, v.length = size) → vs.flatten.length = vs.length * size
 | [], _ => by simp
 | v :: vs, h => by
  rw [List.flatten_cons, List.length_append, h v List.mem_cons_self, flat_len (fun u hu => h u (List.mem_cons_of_mem _ hu)), List.length_cons, Nat.add_mul]
  omega
theorem flat_take {size : Nat} : ∀ {vs : List (List Value)} (i : Nat), (∀ v ∈ vs, v.length = size) → vs.flatten.take (i * size) = (vs.take i).flatten
 | [], i, _ => by simp
 | v :: vs, 0, _ => by simp
 | v :: vs, i + 1, h => by
  rw [List.flatten_cons, List.take_succ_cons, List.flatten_cons, List.take_append, h v List.mem_cons_self, Nat.add_mul, Nat.one_mul, List.take_of_length_le (by rw [h v List.mem_cons_self]; omega)]
  congr 1
  rw [show i * size + size - size = i * size by omega]
  exact flat_take i (fun u hu => h u (List.mem_cons_of_mem _ hu))
theorem flat_drop {size : Nat} : ∀ {vs : List (List Value)} (i : Nat), (∀ v ∈ vs, v.length = size) → vs.flatten.drop (i * size) = (vs.drop i).flatten
 | [], i, _ => by simp
 | v :: vs, 0, _ => by simp
 | v :: vs, i + 1, h => by
  rw [List.flatten_cons, List.drop_succ_cons, List.drop_append, h v List.mem_cons_self, Nat.add_mul, Nat.one_mul, List.drop_of_length_le (by rw [h v List.mem_cons_self]; omega), List.nil_append, show i * size + size - size = i * size by omega]
  exact flat_drop i (fun u hu => h u (List.mem_cons_of_mem _ hu))
theorem flat_over {size : Nat} {vs us : List (List Value)} (i : Nat) (hv : ∀ v ∈ vs, v.length = size) (hu : ∀ v ∈ us, v.length = size) : overL vs.flatten (i * size) us.flatten = (overL vs i us).flatten := by
 unfold overL
 rw [flat_take i hv, flat_len hu, show i * size + us.length * size = (i + us.length) * size by rw [Nat.add_mul], flat_drop (i + us.length) hv]
 simp
theorem chunks {size : Nat} (hs : 0 < size) : ∀ (m : Nat) (l : List Value), l.length = m * size → ∃ us : List (List Value), us.flatten = l ∧ us.length = m ∧ ∀ v ∈ us, v.length = size
 | 0, l, h => ⟨[], by simp at h; simp [h], rfl, by simp⟩
 | m + 1, l, h => by
  rw [Nat.add_mul, Nat.one_mul] at h
  obtain ⟨us, h1, h2, h3⟩ := chunks hs m (l.drop size) (by simp; omega)
  refine ⟨l.take size :: us, by rw [List.flatten_cons, h1, List.take_append_drop], by simp [h2], fun v hv => ?_⟩
  rcases List.mem_cons.1 hv with rfl | hv
  ·simp; omega
  ·exact h3 v hv
structure Rw (W : World) (e size g : Nat) (vs : List (List Value)) : Prop where
 blk : Blk W g e vs.flatten.toArray
 each : ∀ v ∈ vs, v.length = size
section
variable {W W' : World} {e size g : Nat} {vs us : List (List Value)}
theorem Rw.at (h : Rw W e size g vs) {i : Nat} {v : List Value} (hv : vs[i]? = some v) : W.rangeAt g (0 + i * size) v := fun j u hu => by
 have e1 := flatten_get h.each hv hu
 rw [h.blk.cell, Nat.zero_add]
 simpa using e1
theorem Rw.there (h : Rw W e size g vs) {i k : Nat} (hi : i + k ≤ vs.length) : W.there g (0 + i * size) (k * size) := fun j hj => by
 have hl := flat_len h.each
 have hm : (i + k) * size ≤ vs.length * size := Nat.mul_le_mul_right _ hi
 rw [Nat.add_mul] at hm
 refine ⟨?_, h.blk.frozen _⟩
 rw [h.blk.cell, List.getElem?_toArray, List.getElem?_eq_getElem (by rw [hl]; omega)]
 rfl
theorem Rw.over (h : Rw W e size g vs) {i : Nat} (hu : ∀ v ∈ us, v.length = size) (hi : i + us.length ≤ vs.length) : Rw (W.setCells g (0 + i * size) us.flatten) e size g (overL vs i us) := by
 refine ⟨?_, fun v hv => ?_⟩
 ·rw [← flat_over i h.each hu, Nat.zero_add]
  refine h.blk.setCells ?_
  rw [flat_len hu, flat_len h.each, ← Nat.add_mul]
  exact Nat.mul_le_mul_right _ hi
 ·rcases mem_overL hv with hv | hv
  ·exact h.each v hv
  ·exact hu v hv
theorem Rw.set (h : Rw W e size g vs) {i : Nat} {v : List Value} (hv : v.length = size) (hi : i < vs.length) : Rw (W.setCells g (0 + i * size) v) e size g (vs.set i v) := by
 have := h.over (us := [v]) (i := i) (by simpa using hv) (by rw [List.length_singleton]; omega)
 rw [overL_one _ _ _ hi] at this
 simpa using this
theorem Rw.below (h : Rw W e size g vs) (k : Below W.heap.size W W') : Rw W' e size g vs := ⟨h.blk.below k, h.each⟩
theorem Rw.lt (h : Rw W e size g vs) : g < W.heap.size := h.blk.lt
theorem Rw.own (h : Rw W e size g vs) {B n cap : Nat} (hB : B ≤ g) (hn : n ≤ cap) (hc : vs.length = cap) (hm : cap ≤ maxLen) : OwnG W e size B (some ⟨g, 0, none⟩) n cap (vs.take n) := by
 have ht : ∀ v ∈ vs.take n, v.length = size := fun v hv => h.each v (List.mem_of_mem_take hv)
 refine ⟨⟨?_, .inr ⟨g, cap, vs.flatten.toArray, rfl, hB, h.blk, hn, hm, ?_, ?_⟩⟩, ht, by simp; omega⟩
 ·rw [flat_len ht]; simp; rw [Nat.min_eq_left (by omega)]
 ·simp [flat_len h.each, hc]
 ·simpa using flat_take n h.each
end
theorem OwnG.rw' {W : World} {e size B n cap : Nat} {a : Option Addr} {vs : List (List Value)} (h : OwnG W e size B a n cap vs) (hs : 0 < size) : (a = none ∧ n = 0 ∧ cap = 0) ∨ ∃ g us, a = some ⟨g, 0, none⟩ ∧ Rw W e size g (vs ++ us) ∧ n + us.length = cap ∧ B ≤ g ∧ cap ≤ maxLen := by
 rcases h.row.2 with ⟨h0, hn⟩ | ⟨g, cap', cur, hv, hB, hg, hnc, hcm, hcs, htk⟩
 ·cases h0
  exact .inl ⟨rfl, hn, rfl⟩
 ·cases hv
  obtain ⟨us, h1, h2, h3⟩ := chunks hs (cap - n) (cur.toList.drop (n * size)) (by
   rw [List.length_drop, Array.length_toList, hcs, Nat.sub_mul])
  refine .inr ⟨g, us, rfl, ⟨?_, fun v hv => ?_⟩, by omega, hB, hcm⟩
  ·have e1 : (vs ++ us).flatten.toArray = cur := by
    rw [List.flatten_append, h1, ← htk, List.take_append_drop, Array.toArray_toList]
   rw [e1]
   exact hg
  ·rcases List.mem_append.1 hv with hv | hv
   ·exact h.each v hv
   ·exact h3 v hv
end Go.Proofs.YtnekpgmgnepdoaaGreat
end
