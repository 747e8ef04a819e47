/- An operation in the program: twenty-three cells of one block. Loads and stores of it whole, of its dot and its vector, what builds it, and its comparison. -/
import Derived.Test.YtfnaccmgmocolaaDoorOm
import Derived.Test.YtfnaccmgmocolaaDoorHx
import Derived.Laws.Tables
namespace Go.Proofs.YtfnaccmgmocolaaDoor
open Go.RowKit

/-- The cells of an operation. -/
def O.hd (o : O) : List Value := [.int .u8 (o.r : Int), .int .u32 (o.s : Int), .int .u8 (o.k : Int), .int .u16 (o.c : Int), .int .u16 (o.i : Int), .int .u16 (o.q : Int), .int .u32 (o.t : Int)]
def O.cs (o : O) : List Value := o.hd ++ o.v.cs
abbrev O.arr (o : O) : Array Value := o.cs.toArray

theorem O.cs_len (o : O) : o.cs.length = 23 := by simp [O.cs, O.hd, o.v.cs_len]
theorem O.arr_size (o : O) : o.arr.size = 23 := by simp [o.cs_len]
theorem O.arr_one (o : O) : o.arr.all (·.oneCell') = true := by
  refine all_oneCell_toArray fun u hu => ?_
  rcases List.mem_append.1 hu with h | h
  · simp only [O.hd, List.mem_cons, List.not_mem_nil, or_false] at h
    rcases h with rfl | rfl | rfl | rfl | rfl | rfl | rfl <;> rfl
  · obtain ⟨n, _, rfl⟩ := List.mem_map.1 h
    rfl
theorem O.at7 (o : O) {j : Nat} (hj : j < 16) : o.cs[7 + j]? = some (.int .u32 (o.v.at_ j : Int)) := by
  unfold O.cs
  rw [List.getElem?_append_right (by simp [O.hd])]
  simp only [O.hd, List.length_cons, List.length_nil]
  rw [show 7 + j - (0 + 1 + 1 + 1 + 1 + 1 + 1 + 1) = j by omega]
  exact o.v.cs_at hj

theorem oc0 {W : World} {g : Nat} {o : O} (h : Blk W g 29 o.arr) : W.cell? ⟨g, 0, none⟩ = some (.int .u8 (o.r : Int)) := by rw [h.cell]; rfl
theorem oc1 {W : World} {g : Nat} {o : O} (h : Blk W g 29 o.arr) : W.cell? ⟨g, 1, none⟩ = some (.int .u32 (o.s : Int)) := by rw [h.cell]; rfl
theorem oc2 {W : World} {g : Nat} {o : O} (h : Blk W g 29 o.arr) : W.cell? ⟨g, 2, none⟩ = some (.int .u8 (o.k : Int)) := by rw [h.cell]; rfl
theorem oc3 {W : World} {g : Nat} {o : O} (h : Blk W g 29 o.arr) : W.cell? ⟨g, 3, none⟩ = some (.int .u16 (o.c : Int)) := by rw [h.cell]; rfl
theorem oc4 {W : World} {g : Nat} {o : O} (h : Blk W g 29 o.arr) : W.cell? ⟨g, 4, none⟩ = some (.int .u16 (o.i : Int)) := by rw [h.cell]; rfl
theorem oc5 {W : World} {g : Nat} {o : O} (h : Blk W g 29 o.arr) : W.cell? ⟨g, 5, none⟩ = some (.int .u16 (o.q : Int)) := by rw [h.cell]; rfl
theorem oc6 {W : World} {g : Nat} {o : O} (h : Blk W g 29 o.arr) : W.cell? ⟨g, 6, none⟩ = some (.int .u32 (o.t : Int)) := by rw [h.cell]; rfl
theorem oc7 {W : World} {g : Nat} {o : O} (h : Blk W g 29 o.arr) {j : Nat} (hj : j < 16) : W.cell? ⟨g, 7 + j, none⟩ = some (.int .u32 (o.v.at_ j : Int)) := by
  rw [h.cell, ← o.at7 hj]; simp

theorem size29 : (Tryd.prog.info? 29).map (·.size) = some 23 := by kernel_rfl
theorem sixteen (v : V) : ∃ a b c d e f g h i j k l m n p q : Nat, v.1 = [a, b, c, d, e, f, g, h, i, j, k, l, m, n, p, q] := by
  obtain ⟨l, hl, _⟩ := v
  match l, hl with
  | [a, b, c, d, e, f, g, h, i, j, k, l, m, n, p, q], _ => exact ⟨a, b, c, d, e, f, g, h, i, j, k, l, m, n, p, q, rfl⟩

theorem box29 (o : O) (w : World) : (Instr.box 29 (.agg o.arr)).run Tryd.prog w = .ok (.pointer (some ⟨w.heap.size, 0, none⟩)) (w.alloc (.cells o.arr 29)) := by
  simp [Instr.box, newVar, newRow, Value.cells, go_sem]

theorem zero_oarr : O.zero.arr = #[.int .u8 0, .int .u32 0, .int .u8 0, .int .u16 0, .int .u16 0, .int .u16 0, .int .u32 0, .int .u32 0, .int .u32 0, .int .u32 0, .int .u32 0, .int .u32 0, .int .u32 0, .int .u32 0, .int .u32 0, .int .u32 0, .int .u32 0, .int .u32 0, .int .u32 0, .int .u32 0, .int .u32 0, .int .u32 0, .int .u32 0] := by kernel_rfl
theorem info29 : (Tryd.prog.info? 29).map (fun i => (i.zero, i.size)) = some (some (.agg O.zero.arr), 23) := by rw [zero_oarr]; kernel_rfl
theorem alloc29 (w : World) : (Instr.alloc 29 true (.tuple #[])).run Tryd.prog w = .ok (.pointer (some ⟨w.heap.size, 0, none⟩)) (w.alloc (.cells O.zero.arr 29)) := by
  simp only [Instr.alloc, Sem.run_bind, (zero_of_info info29).1, Result.andThen_ok]
  simp [newVar, newRow, Value.cells, go_sem]
theorem build29z (w : World) : (Instr.build 29 #[]).run Tryd.prog w = .ok (.agg O.zero.arr) w := by rw [zero_oarr]; kernel_rfl

theorem load29 {w : World} {g : Nat} {o : O} (h : Blk w g 29 o.arr) : (Instr.loadAt 29 (.pointer (some ⟨g, 0, none⟩))).run Tryd.prog w = .ok (.agg o.arr) w := by
  have hi : (Tryd.prog.info? 29).map (·.size) = some o.arr.size := by rw [o.arr_size]; exact size29
  simp only [Instr.loadAt, Instr.sureAddr, Sem.run_bind, Sem.run_pure, Result.andThen]
  exact run_loadVar_row _ _ 29 29 o.arr (0, 0) _ h Tryd.underlying29 rfl hi
theorem loadVar29 {w : World} {g : Nat} {o : O} (h : Blk w g 29 o.arr) : (loadVar 29 ⟨g, 0, none⟩).run Tryd.prog w = .ok (.agg o.arr) w := by
  have hi : (Tryd.prog.info? 29).map (·.size) = some o.arr.size := by rw [o.arr_size]; exact size29
  exact run_loadVar_row _ _ 29 29 o.arr (0, 0) _ h Tryd.underlying29 rfl hi
theorem store29 {w : World} {g : Nat} {o u : O} (h : Blk w g 29 o.arr) : (Instr.storeAt 29 (.pointer (some ⟨g, 0, none⟩)) (.agg u.arr)).run Tryd.prog w = .ok () (w.setRow g u.arr) := by
  have hi : (Tryd.prog.info? 29).map (·.size) = some u.arr.size := by rw [u.arr_size]; exact size29
  simp only [Instr.storeAt, Instr.sureAddr, Sem.run_bind, Sem.run_pure, Result.andThen]
  exact run_storeVar_row _ _ 29 29 o.arr u.arr h hi (by rw [o.arr_size, u.arr_size]) u.arr_one
/-- The vector out of an operation, and its dot. -/
theorem load_ctx {w : World} {g : Nat} {o : O} (h : Blk w g 29 o.arr) : (Instr.loadAt 27 (.pointer (some ⟨g, 7, none⟩))).run Tryd.prog w = .ok (.agg o.v.arr) w := by
  have hl := run_loadVar_mid (P := Tryd.prog) w g 7 27 o.v.cs _ (by
    intro j u hu
    have hj : j < 16 := by rw [← o.v.cs_len]; exact (List.getElem?_eq_some_iff.1 hu).1
    rw [oc7 h hj, ← o.v.cs_at hj, hu]) und27 rfl (by rw [o.v.cs_len]; exact size27)
  simp only [Instr.loadAt, Instr.sureAddr, Sem.run_bind, Sem.run_pure, Result.andThen_ok, hl]
theorem load_dot {w : World} {g : Nat} {o : O} (h : Blk w g 29 o.arr) : (Instr.loadAt 24 (.pointer (some ⟨g, 0, none⟩))).run Tryd.prog w = .ok (dotV o.r o.s) w := by
  have hl := run_loadVar_mid (P := Tryd.prog) w g 0 24 [.int .u8 (o.r : Int), .int .u32 (o.s : Int)] _ (by
    intro j u hu
    match j, hu with
    | 0, hu => simpa using (oc0 h).trans (by simpa using hu)
    | 1, hu => simpa using (oc1 h).trans (by simpa using hu)) Tryd.underlying24 rfl (by kernel_rfl)
  simp only [Instr.loadAt, Instr.sureAddr, Sem.run_bind, Sem.run_pure, Result.andThen_ok, hl]

section
variable {ev : Operand → Value} {o : Oper} {w : World}
theorem exec_load29 {x : Operand} {g : Nat} {p : O} (ho : o.op = .load 29 x) (hx : ev x = .pointer (some ⟨g, 0, none⟩)) (h : Blk w g 29 p.arr) : (execOp ev o).run Tryd.prog w = .ok (.value (.agg p.arr)) w := exec_cell ho hx (load29 h)
theorem exec_ctx {x : Operand} {g : Nat} {p : O} (ho : o.op = .load 27 x) (hx : ev x = .pointer (some ⟨g, 7, none⟩)) (h : Blk w g 29 p.arr) : (execOp ev o).run Tryd.prog w = .ok (.value (.agg p.v.arr)) w := exec_cell ho hx (load_ctx h)
theorem exec_dot {x : Operand} {g : Nat} {p : O} (ho : o.op = .load 24 x) (hx : ev x = .pointer (some ⟨g, 0, none⟩)) (h : Blk w g 29 p.arr) : (execOp ev o).run Tryd.prog w = .ok (.value (dotV p.r p.s)) w := exec_cell ho hx (load_dot h)
theorem exec_store29 {x y : Operand} {g : Nat} {p u : O} (ho : o.op = .store 29 x y) (hx : ev x = .pointer (some ⟨g, 0, none⟩)) (hy : ev y = .agg u.arr) (h : Blk w g 29 p.arr) : (execOp ev o).run Tryd.prog w = .ok .skip (w.setRow g u.arr) := by
  unfold execOp
  simp only [ho, hx, hy, Sem.run_bind, store29 (u := u) h, Result.andThen_ok]
  rfl
theorem exec_alloc29 (ho : o.op = .alloc 29) : (execOp ev o).run Tryd.prog w = .ok (.value (.pointer (some ⟨w.heap.size, 0, none⟩))) (w.alloc (.cells O.zero.arr 29)) := by
  unfold execOp
  simp only [ho, Sem.run_bind, alloc29, Result.andThen_ok]
  rfl
theorem exec_zero29 (ho : o.op = .build 29 #[]) : (execOp ev o).run Tryd.prog w = .ok (.value (.agg O.zero.arr)) w := by
  unfold execOp
  have h1 : ((#[] : Array (Nat × Operand)).map fun (i, x) => (i, ev x)) = #[] := by simp
  simp only [ho, h1, Sem.run_bind, build29z, Result.andThen_ok]
  rfl
theorem exec_alloc27 (ho : o.op = .alloc 27) : (execOp ev o).run Tryd.prog w = .ok (.value (.pointer (some ⟨w.heap.size, 0, none⟩))) (w.alloc (.cells V.zero.arr 27)) := by
  unfold execOp
  simp only [ho, Sem.run_bind, alloc27, Result.andThen_ok]
  rfl
theorem exec_store27 {x y : Operand} {g : Nat} {p u : V} (ho : o.op = .store 27 x y) (hx : ev x = .pointer (some ⟨g, 0, none⟩)) (hy : ev y = .agg u.arr) (h : Blk w g 27 p.arr) : (execOp ev o).run Tryd.prog w = .ok .skip (w.setRow g u.arr) := by
  unfold execOp
  simp only [ho, hx, hy, Sem.run_bind, store27 (u := u) h, Result.andThen_ok]
  rfl
theorem exec_lssI {x y : Operand} {u t : TypeId} {k : IntKind} {a b : Int} {r : Bool} (ho : o.op = .binOp .lss u x y t) (hx : ev x = .int k a) (hy : ev y = .int k b) (hr : decide (a < b) = r) : (execOp ev o).run Tryd.prog w = .ok (.value (.bool r)) w := by
  subst hr
  unfold execOp
  simp [ho, hx, hy, eqGuard, binOp, Op.intCmp]
theorem exec_leqI {x y : Operand} {u t : TypeId} {k : IntKind} {a b : Int} {r : Bool} (ho : o.op = .binOp .leq u x y t) (hx : ev x = .int k a) (hy : ev y = .int k b) (hr : decide (a ≤ b) = r) : (execOp ev o).run Tryd.prog w = .ok (.value (.bool r)) w := by
  subst hr
  unfold execOp
  simp [ho, hx, hy, eqGuard, binOp, Op.intCmp]
theorem exec_geqI {x y : Operand} {u t : TypeId} {k : IntKind} {a b : Int} {r : Bool} (ho : o.op = .binOp .geq u x y t) (hx : ev x = .int k a) (hy : ev y = .int k b) (hr : decide (b ≤ a) = r) : (execOp ev o).run Tryd.prog w = .ok (.value (.bool r)) w := by
  subst hr
  unfold execOp
  simp [ho, hx, hy, eqGuard, binOp, Op.intCmp]
end

/-- The comparison of an operation with itself. -/
theorem O.part7 (o : O) : o.arr.extract 7 23 = o.v.arr := by
  have h := o.v.cs_len
  simp [O.cs, O.hd, ← h]
theorem part_int (o : O) (w : World) {t : TypeId} {off : Nat} {v : Value} (ha : (isAgg t).run Tryd.prog w = .ok false w) (h : o.cs[off]? = some v) : (part t o.arr off).run Tryd.prog w = .ok v w := by
  simp [part, Sem.run_bind, ha, h]
theorem part_dot (o : O) (w : World) : (part 24 o.arr 0).run Tryd.prog w = .ok (dotV o.r o.s) w := by
  have ha : (isAgg 24).run Tryd.prog w = .ok true w := by kernel_rfl
  simp [part, Sem.run_bind, ha, O.cs, O.hd]
theorem part_ctx (o : O) (w : World) : (part 27 o.arr 7).run Tryd.prog w = .ok (.agg o.v.arr) w := by
  have ha : (isAgg 27).run Tryd.prog w = .ok true w := by kernel_rfl
  have hz : (Go.sizeOf 27).run Tryd.prog w = .ok 16 w := by kernel_rfl
  have h7 := o.part7
  simp only [part, Sem.run_bind, ha, hz, Result.andThen_ok, if_true, Sem.run_pure]
  rw [h7]
theorem eq_dot (r s : Nat) (w : World) : (Op.equalIn 9999 24 (dotV r s) (dotV r s)).run Tryd.prog w = .ok true w := by
  have u5 := Tryd.underlying5
  have u22 := Tryd.underlying22
  have a5 := Tryd.isAgg5
  have a22 := Tryd.isAgg22
  have z5 := Tryd.sizeOf5
  have z22 := Tryd.sizeOf22
  have hS : Tryd.prog.underlying 24 = some (.struct (Tryd.prog.fieldsOf 24)) := by kernel_rfl
  have hp : Tryd.prog.stoodInHeld 24 = false := by kernel_rfl
  rw [show (9999 : Nat) = 9998 + 1 from rfl, run_equalIn_agg w 9998 24 _ _ hS hp]
  simp only [Program.fieldsOf, Tryd.underlying24]
  go_simp
theorem eq_ctx (v : V) (w : World) : (Op.equalIn 9999 27 (.agg v.arr) (.agg v.arr)).run Tryd.prog w = .ok true w := by
  obtain ⟨i, hi⟩ : ∃ i, Tryd.prog.info? 22 = some i := Option.isSome_iff_exists.1 (by kernel_rfl)
  rw [run_equalIn_array w 9998 v.arr v.arr und27 hi, show Tryd.prog.cellsOf 22 = 1 by kernel_rfl, eq_items 9997 v v w _ (fun i hi => List.mem_range.1 hi), all_eq]
  simp [V.eqB]
theorem eqF_step {d : Nat} {xs ys : Array Value} {f : Field} {fs : List Field} {w : World} (a b : Value) (hn : f.name ≠ "_") (h1 : (part f.type xs f.offset).run Tryd.prog w = .ok a w) (h2 : (part f.type ys f.offset).run Tryd.prog w = .ok b w) (h3 : (Op.equalIn d f.type a b).run Tryd.prog w = .ok true w)
    (h : (Op.eqFields d xs ys fs).run Tryd.prog w = .ok true w) : (Op.eqFields d xs ys (f :: fs)).run Tryd.prog w = .ok true w := by
  simp [Op.eqFields, Sem.run_bind, hn, h1, h2, h3, h]
theorem eqF_nil {d : Nat} {xs ys : Array Value} {w : World} : (Op.eqFields d xs ys []).run Tryd.prog w = .ok true w := by simp [Op.eqFields]
theorem eq_int (t : TypeId) (k : IntKind) (a : Int) (w : World) (h : Tryd.prog.underlying t = some (.int k)) : (Op.equalIn 9999 t (.int k a) (.int k a)).run Tryd.prog w = .ok true w := by
  have := run_equalIn_int (P := Tryd.prog) w 9998 t k k a a h
  rw [beq_self_eq_true] at this
  exact this
theorem eq_self (o : O) (w : World) : (Op.equalIn 10000 29 (.agg o.arr) (.agg o.arr)).run Tryd.prog w = .ok true w := by
  have hS : Tryd.prog.underlying 29 = some (.struct (Tryd.prog.fieldsOf 29)) := by kernel_rfl
  have hp : Tryd.prog.stoodInHeld 29 = false := by kernel_rfl
  have p0 := part_dot o w
  have p2 := part_int o w (t := 5) (off := 2) (v := .int .u8 (o.k : Int)) (by kernel_rfl) rfl
  have p3 := part_int o w (t := 25) (off := 3) (v := .int .u16 (o.c : Int)) (by kernel_rfl) rfl
  have p4 := part_int o w (t := 25) (off := 4) (v := .int .u16 (o.i : Int)) (by kernel_rfl) rfl
  have p5 := part_int o w (t := 25) (off := 5) (v := .int .u16 (o.q : Int)) (by kernel_rfl) rfl
  have p6 := part_int o w (t := 22) (off := 6) (v := .int .u32 (o.t : Int)) (by kernel_rfl) rfl
  have p7 := part_ctx o w
  have e0 := eq_dot o.r o.s w
  have e7 := eq_ctx o.v w
  rw [show (10000 : Nat) = 9999 + 1 from rfl, run_equalIn_agg w 9999 29 _ _ hS hp]
  simp only [Program.fieldsOf, Tryd.underlying29]
  clear hS hp
  generalize o.arr = oa at *
  refine eqF_step (dotV o.r o.s) (dotV o.r o.s) (by decide) ?_ ?_ ?_ ?_
  · exact p0
  · exact p0
  · exact e0
  refine eqF_step (.int .u8 (o.k : Int)) (.int .u8 (o.k : Int)) (by decide) ?_ ?_ ?_ ?_
  · exact p2
  · exact p2
  · exact (eq_int 5 .u8 _ w (by kernel_rfl))
  refine eqF_step (.int .u16 (o.c : Int)) (.int .u16 (o.c : Int)) (by decide) ?_ ?_ ?_ ?_
  · exact p3
  · exact p3
  · exact (eq_int 25 .u16 _ w (by kernel_rfl))
  refine eqF_step (.int .u16 (o.i : Int)) (.int .u16 (o.i : Int)) (by decide) ?_ ?_ ?_ ?_
  · exact p4
  · exact p4
  · exact (eq_int 25 .u16 _ w (by kernel_rfl))
  refine eqF_step (.int .u16 (o.q : Int)) (.int .u16 (o.q : Int)) (by decide) ?_ ?_ ?_ ?_
  · exact p5
  · exact p5
  · exact (eq_int 25 .u16 _ w (by kernel_rfl))
  refine eqF_step (.int .u32 (o.t : Int)) (.int .u32 (o.t : Int)) (by decide) ?_ ?_ ?_ ?_
  · exact p6
  · exact p6
  · exact (eq_int 22 .u32 _ w (by kernel_rfl))
  refine eqF_step (.agg o.v.arr) (.agg o.v.arr) (by decide) ?_ ?_ ?_ ?_
  · exact p7
  · exact p7
  · exact e7
  exact eqF_nil
theorem eql29 (o : O) (w : World) : (binOp .eql 29 (.agg o.arr) (.agg o.arr)).run Tryd.prog w = .ok (.bool true) w := by
  rw [run_eql_struct, eq_self]; rfl
theorem neq29 (o : O) (w : World) : (binOp .neq 29 (.agg o.arr) (.agg o.arr)).run Tryd.prog w = .ok (.bool false) w := by
  rw [run_neq_struct, eq_self]; rfl
theorem guard29 (op : BinOp) (x y : Operand) (a b : O) (w : World) : (eqGuard op 29 x y (.agg a.arr) (.agg b.arr)).run Tryd.prog w = .ok () w := run_eqGuard_agg w op 29 x y _ _ (by kernel_rfl)

section
variable {ev : Operand → Value} {o : Oper} {w : World}
theorem exec_eql29 {x y : Operand} {t : TypeId} {a b : O} (ho : o.op = .binOp .eql 29 x y t) (hx : ev x = .agg a.arr) (hy : ev y = .agg b.arr) (hab : a = b) : (execOp ev o).run Tryd.prog w = .ok (.value (.bool true)) w := by
  subst hab
  unfold execOp
  simp only [ho, hx, hy, Sem.run_bind, guard29, eql29, Result.andThen_ok]
  rfl
theorem exec_neq29 {x y : Operand} {t : TypeId} {a b : O} (ho : o.op = .binOp .neq 29 x y t) (hx : ev x = .agg a.arr) (hy : ev y = .agg b.arr) (hab : a = b) : (execOp ev o).run Tryd.prog w = .ok (.value (.bool false)) w := by
  subst hab
  unfold execOp
  simp only [ho, hx, hy, Sem.run_bind, guard29, neq29, Result.andThen_ok]
  rfl
end

/-- What a row of seven numbers and a vector are built to. -/
theorem build29 (o : O) (w : World) : (Instr.build 29 #[(0, dotV o.r o.s), (1, .int .u8 (o.k : Int)), (2, .int .u16 (o.c : Int)), (3, .int .u16 (o.i : Int)), (4, .int .u16 (o.q : Int)), (5, .int .u32 (o.t : Int)), (6, .agg o.v.arr)]).run Tryd.prog w = .ok (.agg o.arr) w := by
  refine run_build w 29 _ _ ?_
  obtain ⟨a, b, c, d, e, f, g, h, i, j, k, l, m, n, p, q, hv⟩ := sixteen o.v
  unfold O.arr V.arr O.cs V.cs
  rw [hv]
  kernel_rfl
/-- The same, with no dot. -/
theorem build29d (o : O) (w : World) (h0 : o.r = 0) (h1 : o.s = 0) : (Instr.build 29 #[(1, .int .u8 (o.k : Int)), (2, .int .u16 (o.c : Int)), (3, .int .u16 (o.i : Int)), (4, .int .u16 (o.q : Int)), (5, .int .u32 (o.t : Int)), (6, .agg o.v.arr)]).run Tryd.prog w = .ok (.agg o.arr) w := by
  refine run_build w 29 _ _ ?_
  obtain ⟨a, b, c, d, e, f, g, h, i, j, k, l, m, n, p, q, hv⟩ := sixteen o.v
  unfold O.arr V.arr O.cs V.cs O.hd
  rw [hv, h0, h1]
  kernel_rfl

theorem ret29_two {fn : Func} {t s : Tmp} (h : fn.results = #[.cell t 29, .tmp s]) {tmps : Array Value} {w : World} {g : Nat} {o : O} {y : Value} (hx : tmps.getD t undef = .pointer (some ⟨g, 0, none⟩)) (hy : tmps.getD s undef = y) (hb : Blk w g 29 o.arr) :
    (results fn tmps).run Tryd.prog w = .ok (.tuple #[.agg o.arr, y]) w := by
  rw [results_cell_tmp h, hx, hy]
  simp [Result.andThen, asAddr, loadVar29 hb]

section
variable {ops : Array Oper} {rest : List Oper} {o : Oper} {act : Act} {Q : Exit → Act → World → Prop} {W W2 : World}
/-- An operation that is wanted, whose run is known. -/
theorem wpList_runW {v : Value} (hrun : (execOp act.eval o).run Tryd.prog W = .ok (.value v) W2) (hw : Region.wanted o (yielded ops act.tmps) = true)
    (k : wpList Tryd.prog ops Q rest (act.put o.dst v) W2) : wpList Tryd.prog ops Q (o :: rest) act W :=
  BigFrame.wpList_want hw fun _ hK => by
    unfold Oper.wp
    rw [hrun]
    exact hK _ _ k
/-- The walk stands still at a store of an operation. -/
theorem wpList_stop29 {x y : Operand} (_ho : o.op = .store 29 x y) (k : Halt_ (wpList Tryd.prog ops Q (o :: rest) act W)) : wpList Tryd.prog ops Q (o :: rest) act W := k.out
end

/-! Operations that a call laid down. -/
structure Ow (w W : World) (o : O) : Prop where
  one : Blk W w.heap.size 29 o.arr
  old : Below w.heap.size w W
theorem ow_new (w : World) (o : O) : Ow w (w.alloc (.cells o.arr 29)) o := ⟨Blk.new w 29 o.arr, below_one _ _⟩
theorem Ow.below {w W W' : World} {o : O} (h : Ow w W o) (hb : Below W.heap.size W W') : Ow w W' o := ⟨h.one.below hb, h.old.trans (hb.mono h.old.size)⟩
theorem Ow.drew {w W : World} {o : O} (h : Ow w W o) : Ow w W.drew o := ⟨h.one, h.old.drew⟩
structure Ow2 (w W : World) (a b : O) : Prop where
  one : Blk W w.heap.size 29 a.arr
  two : Blk W (w.heap.size + 1) 29 b.arr
  old : Below w.heap.size w W
theorem ow2_new (w : World) (a b : O) : Ow2 w ((w.alloc (.cells a.arr 29)).alloc (.cells b.arr 29)) a b := by
  have h1 := Blk.new w 29 a.arr
  have h2 := Blk.new (w.alloc (.cells a.arr 29)) 29 b.arr
  have k2 := Kept.alloc (fun _ => False) (w.alloc (.cells a.arr 29)) (.cells b.arr 29)
  simp only [World.size_alloc] at h2
  exact ⟨h1.kept k2 (fun h => h), h2, below_two' _ _ _⟩
theorem Ow2.below {w W W' : World} {a b : O} (h : Ow2 w W a b) (hb : Below W.heap.size W W') : Ow2 w W' a b := ⟨h.one.below hb, h.two.below hb, h.old.trans (hb.mono h.old.size)⟩
theorem Ow2.drew {w W : World} {a b : O} (h : Ow2 w W a b) : Ow2 w W.drew a b := ⟨h.one, h.two, h.old.drew⟩
structure Vo (w W : World) (v : V) (o : O) : Prop where
  vec : Blk W w.heap.size 27 v.arr
  two : Blk W (w.heap.size + 1) 29 o.arr
  old : Below w.heap.size w W
theorem vo_new (w : World) (v : V) (o : O) : Vo w ((w.alloc (.cells v.arr 27)).alloc (.cells o.arr 29)) v o := by
  have h1 := Blk.new w 27 v.arr
  have h2 := Blk.new (w.alloc (.cells v.arr 27)) 29 o.arr
  have k2 := Kept.alloc (fun _ => False) (w.alloc (.cells v.arr 27)) (.cells o.arr 29)
  simp only [World.size_alloc] at h2
  exact ⟨h1.kept k2 (fun h => h), h2, below_two' _ _ _⟩
theorem Vo.below {w W W' : World} {v : V} {o : O} (h : Vo w W v o) (hb : Below W.heap.size W W') : Vo w W' v o := ⟨h.vec.below hb, h.two.below hb, h.old.trans (hb.mono h.old.size)⟩
theorem Vo.drew {w W : World} {v : V} {o : O} (h : Vo w W v o) : Vo w W.drew v o := ⟨h.vec, h.two, h.old.drew⟩
structure Ow3 (w W : World) (a b c : O) : Prop where
  one : Blk W w.heap.size 29 a.arr
  two : Blk W (w.heap.size + 1) 29 b.arr
  thr : Blk W (w.heap.size + 1 + 1) 29 c.arr
  old : Below w.heap.size w W
theorem ow3_new (w : World) (a b c : O) : Ow3 w (((w.alloc (.cells a.arr 29)).alloc (.cells b.arr 29)).alloc (.cells c.arr 29)) a b c := by
  have h := ow2_new w a b
  have h3 := Blk.new ((w.alloc (.cells a.arr 29)).alloc (.cells b.arr 29)) 29 c.arr
  have hb := below_one ((w.alloc (.cells a.arr 29)).alloc (.cells b.arr 29)) (.cells c.arr 29)
  simp only [World.size_alloc] at h3
  exact ⟨h.one.below hb, h.two.below hb, h3, h.old.trans (hb.mono h.old.size)⟩
theorem Ow3.below {w W W' : World} {a b c : O} (h : Ow3 w W a b c) (hb : Below W.heap.size W W') : Ow3 w W' a b c := ⟨h.one.below hb, h.two.below hb, h.thr.below hb, h.old.trans (hb.mono h.old.size)⟩
theorem Ow3.drew {w W : World} {a b c : O} (h : Ow3 w W a b c) : Ow3 w W.drew a b c := ⟨h.one, h.two, h.thr, h.old.drew⟩

/-! An operation laid down at a new block. -/
theorem olaid_blk (w : World) (z o : O) : Blk ((w.alloc (.cells z.arr 29)).setRow w.heap.size o.arr) w.heap.size 29 o.arr := (Blk.new w 29 z.arr).row
theorem olaid_old (w : World) (z o : O) : Below w.heap.size w ((w.alloc (.cells z.arr 29)).setRow w.heap.size o.arr) :=
  (below_one w _).trans ((Kept.setRow (w.alloc (.cells z.arr 29)) w.heap.size o.arr).below (by simp) (fun k hk => by omega))

end Go.Proofs.YtfnaccmgmocolaaDoor
