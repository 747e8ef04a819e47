import Derived.Test.YtnekpgmgnepdoaaGreatWac
namespace Go.Proofs.YtnekpgmgnepdoaaGreat
open Go.RowKit
def stC (v : V) (x y : Value) : List Value := v.cs ++ [x, y]
abbrev stA (v : V) (x y : Value) : Array Value := (stC v x y).toArray
theorem stC_len (v : V) (x y : Value) : (stC v x y).length = 18 := by simp [stC, v.cs_len]
theorem stA_size (v : V) (x y : Value) : (stA v x y).size = 18 := by simp [stC_len]
abbrev sv (v : V) (a : Option Addr) (n c : Nat) (b : Option Addr) (m d : Nat) : Array Value := stA v (.slice a n c) (.slice b m d)
theorem sv_one (v : V) (a : Option Addr) (n c : Nat) (b : Option Addr) (m d : Nat) : (sv v a n c b m d).all (·.oneCell') = true := by
 refine all_oneCell_toArray fun u hu => ?_
 rcases List.mem_append.1 hu with h | h
 ·obtain ⟨n, _, rfl⟩ := List.mem_map.1 h
  rfl
 ·simp only [List.mem_cons, List.not_mem_nil, or_false] at h
  rcases h with rfl | rfl <;> rfl
theorem stc16 {W : World} {g t : Nat} {v : V} {x y : Value} (h : Blk W g t (stA v x y)) : W.cell? ⟨g, 16, none⟩ = some x := by
 rw [h.cell, List.getElem?_toArray, stC, List.getElem?_append_right (by rw [v.cs_len]; omega), v.cs_len]; rfl
theorem stc17 {W : World} {g t : Nat} {v : V} {x y : Value} (h : Blk W g t (stA v x y)) : W.cell? ⟨g, 17, none⟩ = some y := by
 rw [h.cell, List.getElem?_toArray, stC, List.getElem?_append_right (by rw [v.cs_len]; omega), v.cs_len]; rfl
theorem load_stV {w : World} {g t : Nat} {v : V} {x y : Value} (h : Blk w g t (stA v x y)) : (Instr.loadAt 24 (.pointer (some ⟨g, 0, none⟩))).run Tryz.prog w = .ok (.agg v.arr) w := by
 have hl := run_loadVar_mid (P := Tryz.prog) w g 0 24 v.cs _ (by
  intro j u hu
  have hj : j < 16 := by rw [← v.cs_len]; exact (List.getElem?_eq_some_iff.1 hu).1
  rw [h.cell, Nat.zero_add, List.getElem?_toArray, stC, List.getElem?_append_left (by rw [v.cs_len]; exact hj), hu]) und24 rfl (by rw [v.cs_len]; exact size24)
 simp only [Instr.loadAt, Instr.sureAddr, Sem.run_bind, Sem.run_pure, Result.andThen_ok, hl]
theorem exec_stV {ev : Operand → Value} {o : Oper} {w : World} {x : Operand} {g t : Nat} {v : V} {a b : Value} (ho : o.op = .load 24 x) (hx : ev x = .pointer (some ⟨g, 0, none⟩)) (h : Blk w g t (stA v a b)) : (execOp ev o).run Tryz.prog w = .ok (.value (.agg v.arr)) w := exec_cell ho hx (load_stV h)
theorem stA_zero : stA V.zero (.slice none 0 0) (.slice none 0 0) = #[.int .u32 0, .int .u32 0, .int .u32 0, .int .u32 0, .int .u32 0, .int .u32 0, .int .u32 0, .int .u32 0, .int .u32 0, .int .u32 0, .int .u32 0, .int .u32 0, .int .u32 0, .int .u32 0, .int .u32 0, .int .u32 0, .slice none 0 0, .slice none 0 0] := by kernel_rfl
structure SL (w : World) (s : Sta) (a : Option Addr) (n : Nat) (b : Option Addr) (m : Nat) : Prop where
 es : EL w a n s.es
 ts : LL w b m s.ts
theorem SL.below {w w' : World} {s : Sta} {a b : Option Addr} {n m : Nat} (h : SL w s a n b m) (hb : Below w.heap.size w w') : SL w' s a n b m := ⟨h.es.below hb, h.ts.below hb⟩
theorem und39 : Tryz.prog.underlying 39 = some (.struct (Tryz.prog.fieldsOf 39)) := by kernel_rfl
theorem size39 : (Tryz.prog.info? 39).map (·.size) = some 18 := by kernel_rfl
theorem info39z : (Tryz.prog.info? 39).map (fun i => (i.zero, i.size)) = some (some (.agg (stA V.zero (.slice none 0 0) (.slice none 0 0))), 18) := by rw [stA_zero]; kernel_rfl
theorem box39 (v : V) (x y : Value) (w : World) : (Instr.box 39 (.agg (stA v x y))).run Tryz.prog w = .ok (.pointer (some ⟨w.heap.size, 0, none⟩)) (w.alloc (.cells (stA v x y) 39)) := by
 simp [Instr.box, newVar, newRow, Value.cells, go_sem]
theorem alloc39 (w : World) : (Instr.alloc 39 true (.tuple #[])).run Tryz.prog w = .ok (.pointer (some ⟨w.heap.size, 0, none⟩)) (w.alloc (.cells (stA V.zero (.slice none 0 0) (.slice none 0 0)) 39)) := by
 simp only [Instr.alloc, Sem.run_bind, (zero_of_info info39z).1, Result.andThen_ok]
 simp [newVar, newRow, Value.cells, go_sem]
theorem loadVar39 {w : World} {g : Nat} {v : V} {x y : Value} (h : Blk w g 39 (stA v x y)) : (loadVar 39 ⟨g, 0, none⟩).run Tryz.prog w = .ok (.agg (stA v x y)) w :=
 run_loadVar_row _ _ 39 39 (stA v x y) (0, 0) _ h und39 rfl (by rw [stA_size]; exact size39)
theorem load39 {w : World} {g : Nat} {v : V} {x y : Value} (h : Blk w g 39 (stA v x y)) : (Instr.loadAt 39 (.pointer (some ⟨g, 0, none⟩))).run Tryz.prog w = .ok (.agg (stA v x y)) w := by
 simp only [Instr.loadAt, Instr.sureAddr, Sem.run_bind, Sem.run_pure, Result.andThen]
 exact loadVar39 h
theorem store39 {w : World} {g n c m d : Nat} {v u : V} {x y : Value} {a b : Option Addr} (h : Blk w g 39 (stA v x y)) : (Instr.storeAt 39 (.pointer (some ⟨g, 0, none⟩)) (.agg (sv u a n c b m d))).run Tryz.prog w = .ok () (w.setRow g (sv u a n c b m d)) := by
 simp only [Instr.storeAt, Instr.sureAddr, Sem.run_bind, Sem.run_pure, Result.andThen]
 exact run_storeVar_row _ _ 39 39 (stA v x y) (sv u a n c b m d) h (by rw [stA_size]; exact size39) (by rw [stA_size, stA_size]) (sv_one _ _ _ _ _ _ _)
theorem build39z (w : World) : (Instr.build 39 #[]).run Tryz.prog w = .ok (.agg (stA V.zero (.slice none 0 0) (.slice none 0 0))) w := by rw [stA_zero]; kernel_rfl
theorem build39 (v : V) (a : Option Addr) (n c : Nat) (b : Option Addr) (m d : Nat) (w : World) : (Instr.build 39 #[(0, .agg v.arr), (1, .slice a n c), (2, .slice b m d)]).run Tryz.prog w = .ok (.agg (sv v a n c b m d)) w := by
 refine run_build w 39 _ _ ?_
 obtain ⟨x0, x1, x2, x3, x4, x5, x6, x7, x8, x9, y0, y1, y2, y3, y4, y5, hv⟩ := sixteen v
 unfold sv stA stC V.arr V.cs
 rw [hv]
 kernel_rfl
theorem ret39_two {fn : Func} {t s : Tmp} (h : fn.results = #[.cell t 39, .tmp s]) {tmps : Array Value} {w : World} {g : Nat} {v : V} {x y z : Value} (hx : tmps.getD t undef = .pointer (some ⟨g, 0, none⟩)) (hy : tmps.getD s undef = z) (hb : Blk w g 39 (stA v x y)) :
  (results fn tmps).run Tryz.prog w = .ok (.tuple #[.agg (stA v x y), z]) w := by
 rw [results_cell_tmp h, hx, hy]
 simp [Result.andThen, asAddr, loadVar39 hb]
section
variable {ev : Operand → Value} {q : Oper} {w : World}
theorem exec_load39 {x : Operand} {g : Nat} {v : V} {a b : Value} (ho : q.op = .load 39 x) (hx : ev x = .pointer (some ⟨g, 0, none⟩)) (h : Blk w g 39 (stA v a b)) : (execOp ev q).run Tryz.prog w = .ok (.value (.agg (stA v a b))) w := exec_cell ho hx (load39 h)
theorem exec_store39 {x y : Operand} {g n c m d : Nat} {v u : V} {p r : Value} {a b : Option Addr} (ho : q.op = .store 39 x y) (hx : ev x = .pointer (some ⟨g, 0, none⟩)) (hy : ev y = .agg (sv u a n c b m d)) (h : Blk w g 39 (stA v p r)) : (execOp ev q).run Tryz.prog w = .ok .skip (w.setRow g (sv u a n c b m d)) := by
 unfold execOp
 simp only [ho, hx, hy, Sem.run_bind, store39 (u := u) (a := a) (b := b) (n := n) (c := c) (m := m) (d := d) h, Result.andThen_ok]
 rfl
theorem exec_alloc39z {z : V} (hz : V.zero = z) (ho : q.op = .alloc 39) : (execOp ev q).run Tryz.prog w = .ok (.value (.pointer (some ⟨w.heap.size, 0, none⟩))) (w.alloc (.cells (sv z none 0 0 none 0 0) 39)) := by
 subst hz
 unfold execOp
 simp only [ho, Sem.run_bind, alloc39, Result.andThen_ok]
 rfl
theorem exec_zero39 {z : V} (hz : V.zero = z) (ho : q.op = .build 39 #[]) : (execOp ev q).run Tryz.prog w = .ok (.value (.agg (sv z none 0 0 none 0 0))) w := by
 subst hz
 unfold execOp
 have h1 : ((#[] : Array (Nat × Operand)).map fun (i, x) => (i, ev x)) = #[] := by simp
 simp only [ho, h1, Sem.run_bind, build39z, Result.andThen_ok]
 rfl
theorem exec_build39 {x y z : Operand} {v : V} {a b : Option Addr} {n c m d : Nat} (ho : q.op = .build 39 #[(0, x), (1, y), (2, z)]) (hx : ev x = .agg v.arr) (hy : ev y = .slice a n c) (hz : ev z = .slice b m d) : (execOp ev q).run Tryz.prog w = .ok (.value (.agg (sv v a n c b m d))) w := by
 have hm : (#[((0 : Nat), x), (1, y), (2, z)]).map (fun (i, x) => (i, ev x)) = #[(0, .agg v.arr), (1, .slice a n c), (2, .slice b m d)] := by simp [hx, hy, hz]
 unfold execOp
 simp only [ho, hm, Sem.run_bind, build39 v a n c b m d w, Result.andThen_ok]
 rfl
end
section
variable {ops : Array Oper} {rest : List Oper} {o : Oper} {act : Act} {Q : Exit → Act → World → Prop} {W : World}
theorem wpList_stop39 {x y : Operand} (_ho : o.op = .store 39 x y) (k : Halt_ (wpList Tryz.prog ops Q (o :: rest) act W)) : wpList Tryz.prog ops Q (o :: rest) act W := k.out
end
end Go.Proofs.YtnekpgmgnepdoaaGreat
