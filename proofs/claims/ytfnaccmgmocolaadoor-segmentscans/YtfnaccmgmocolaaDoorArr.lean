/- A vector in the program: sixteen cells of one block. Loads and stores of it whole and by one cell, and its comparison. -/
import Derived.Test.YtfnaccmgmocolaaDoorMem
import Derived.Test.YtfnaccmgmocolaaDoorV
import Derived.Deep.WholeRow
import Derived.Deep.MidRow
import Derived.ChangeKeysEq
import Derived.Laws.ResultCell
namespace Go.Proofs.YtfnaccmgmocolaaDoor
open Go.RowKit

/-- The cells of a vector. -/
def V.cs (v : V) : List Value := v.1.map fun n => Value.int .u32 ((n : Nat) : Int)
abbrev V.arr (v : V) : Array Value := v.cs.toArray

theorem V.cs_len (v : V) : v.cs.length = 16 := by simp [V.cs, v.2.1]
theorem V.arr_size (v : V) : v.arr.size = 16 := by simp [V.cs, v.2.1]
theorem V.cs_at (v : V) {i : Nat} (h : i < 16) : v.cs[i]? = some (.int .u32 (v.at_ i : Int)) := by
  have hl : i < v.1.length := by rw [v.2.1]; exact h
  simp [V.cs, V.at_, List.getD, hl]
theorem V.arr_at (v : V) {i : Nat} (h : i < 16) : v.arr[i]? = some (.int .u32 (v.at_ i : Int)) := by
  rw [← v.cs_at h]; simp
theorem V.arr_one (v : V) : v.arr.all (·.oneCell') = true := by
  refine all_oneCell_toArray fun u hu => ?_
  obtain ⟨n, _, rfl⟩ := List.mem_map.1 hu
  rfl
theorem V.arr_ext {v : V} {c : Array Value} (hs : c.size = 16) (h : ∀ i, i < 16 → c[i]? = some (.int .u32 (v.at_ i : Int))) : c = v.arr := by
  apply Array.ext_getElem?
  intro i
  by_cases hi : i < 16
  · rw [h i hi, v.arr_at hi]
  · rw [Array.getElem?_eq_none (by omega), Array.getElem?_eq_none (by rw [v.arr_size]; omega)]
theorem V.arr_put (v : V) {i s : Nat} (_hi : i < 16) (hs : s < 4294967296) : v.arr.setIfInBounds i (.int .u32 (s : Int)) = (v.put i s).arr := by
  refine V.arr_ext (by simp [v.cs_len]) fun j hj => ?_
  rw [V.put_at v i s hj hs, Array.getElem?_setIfInBounds]
  by_cases e : i = j
  · subst e; simp [v.cs_len, hj]
  · rw [if_neg e, if_neg (fun h => e h.symm), v.arr_at hj]

theorem zero_arr : V.zero.arr = #[.int .u32 0, .int .u32 0, .int .u32 0, .int .u32 0, .int .u32 0, .int .u32 0, .int .u32 0, .int .u32 0, .int .u32 0, .int .u32 0, .int .u32 0, .int .u32 0, .int .u32 0, .int .u32 0, .int .u32 0, .int .u32 0] := by kernel_rfl

theorem info27 : (Tryd.prog.info? 27).map (fun i => (i.zero, i.size)) = some (some (.agg #[.int .u32 0, .int .u32 0, .int .u32 0, .int .u32 0, .int .u32 0, .int .u32 0, .int .u32 0, .int .u32 0, .int .u32 0, .int .u32 0, .int .u32 0, .int .u32 0, .int .u32 0, .int .u32 0, .int .u32 0, .int .u32 0]), 16) := by kernel_rfl

theorem und27 : Tryd.prog.underlying 27 = some (.array 16 22) := by kernel_rfl
theorem size27 : (Tryd.prog.info? 27).map (·.size) = some 16 := (zero_of_info info27).2

theorem box27 (v : V) (w : World) : (Instr.box 27 (.agg v.arr)).run Tryd.prog w = .ok (.pointer (some ⟨w.heap.size, 0, none⟩)) (w.alloc (.cells v.arr 27)) := by
  simp [Instr.box, newVar, newRow, Value.cells, go_sem]

theorem alloc27 (w : World) : (Instr.alloc 27 true (.tuple #[])).run Tryd.prog w = .ok (.pointer (some ⟨w.heap.size, 0, none⟩)) (w.alloc (.cells V.zero.arr 27)) := by
  simp only [Instr.alloc, Sem.run_bind, (zero_of_info info27).1, Result.andThen_ok, zero_arr]
  simp [newVar, newRow, Value.cells, go_sem]

theorem build27 (w : World) : (Instr.build 27 #[]).run Tryd.prog w = .ok (.agg V.zero.arr) w := by rw [zero_arr]; kernel_rfl

theorem load27 {w : World} {g : Nat} {v : V} (h : Blk w g 27 v.arr) : (Instr.loadAt 27 (.pointer (some ⟨g, 0, none⟩))).run Tryd.prog w = .ok (.agg v.arr) w := by
  have hi : (Tryd.prog.info? 27).map (·.size) = some v.arr.size := by rw [v.arr_size]; exact size27
  simp only [Instr.loadAt, Instr.sureAddr, Sem.run_bind, Sem.run_pure, Result.andThen]
  exact run_loadVar_row _ _ 27 27 v.arr (0, 0) _ h und27 rfl hi

theorem store27 {w : World} {g : Nat} {v u : V} (h : Blk w g 27 v.arr) : (Instr.storeAt 27 (.pointer (some ⟨g, 0, none⟩)) (.agg u.arr)).run Tryd.prog w = .ok () (w.setRow g u.arr) := by
  have hi : (Tryd.prog.info? 27).map (·.size) = some u.arr.size := by rw [u.arr_size]; exact size27
  simp only [Instr.storeAt, Instr.sureAddr, Sem.run_bind, Sem.run_pure, Result.andThen]
  exact run_storeVar_row _ _ 27 27 v.arr u.arr h hi (by rw [v.arr_size, u.arr_size]) u.arr_one

theorem size_cs (v : V) : (Tryd.prog.info? 27).map (·.size) = some v.cs.length := by rw [v.cs_len]; exact size27
theorem Blk.range {w : World} {g : Nat} {v : V} (h : Blk w g 27 v.arr) : w.rangeAt g 0 v.cs := fun j u hu => by
  rw [Nat.zero_add, h.cell]
  simpa using hu

theorem eq_items (d : Nat) (a b : V) (w : World) : ∀ (is : List Nat), (∀ i ∈ is, i < 16) →
    (Op.eqItems (d + 1) 22 1 a.arr b.arr is).run Tryd.prog w = .ok (is.all fun i => decide (a.at_ i = b.at_ i)) w
  | [], _ => by simp [Op.eqItems]
  | i :: is, h => by
    have hi := h i List.mem_cons_self
    have hp : ∀ v : V, (part 22 v.arr (i * 1)).run Tryd.prog w = .ok (.int .u32 (v.at_ i : Int)) w := by
      intro v
      rw [Nat.mul_one]
      have hn : (isAgg 22).run Tryd.prog w = .ok false w := by kernel_rfl
      simp [part, Sem.run_bind, hn, v.cs_at hi]
    have he := run_equalIn_int (P := Tryd.prog) w d 22 .u32 .u32 (a.at_ i : Int) (b.at_ i : Int) (by kernel_rfl)
    simp only [Op.eqItems, Sem.run_bind, hp, Result.andThen_ok, he, Sem.run_ite]
    have ih := eq_items d a b w is (fun j hj => h j (List.mem_cons_of_mem _ hj))
    by_cases e : a.at_ i = b.at_ i
    · simp [e, ih]
    · have : ((a.at_ i : Int) == (b.at_ i : Int)) = false := by simp; omega
      simp [e, this]

theorem all_eq (a b : V) : ((List.range 16).all fun i => decide (a.at_ i = b.at_ i)) = V.eqB a b := by
  rw [Bool.eq_iff_iff, V.eqB_iff]
  simp only [List.all_eq_true, List.mem_range, decide_eq_true_eq]
  exact ⟨fun h => V.ext h, fun h i _ => by rw [h]⟩

theorem equal27 (a b : V) (w : World) : (Op.equalIn 10000 27 (.agg a.arr) (.agg b.arr)).run Tryd.prog w = .ok (V.eqB a b) w := by
  obtain ⟨i, hi⟩ : ∃ i, Tryd.prog.info? 22 = some i := Option.isSome_iff_exists.1 (by kernel_rfl)
  rw [run_equalIn_array w 9999 a.arr b.arr und27 hi, show Tryd.prog.cellsOf 22 = 1 by kernel_rfl, eq_items 9998 a b w _ (fun i hi => List.mem_range.1 hi), all_eq]

theorem eql27 (a b : V) (w : World) : (binOp .eql 27 (.agg a.arr) (.agg b.arr)).run Tryd.prog w = .ok (.bool (V.eqB a b)) w := by
  rw [run_eql_struct, equal27]; rfl
theorem neq27 (a b : V) (w : World) : (binOp .neq 27 (.agg a.arr) (.agg b.arr)).run Tryd.prog w = .ok (.bool (!V.eqB a b)) w := by
  rw [run_neq_struct, equal27]; rfl
theorem guard27 (op : BinOp) (x y : Operand) (a b : V) (w : World) : (eqGuard op 27 x y (.agg a.arr) (.agg b.arr)).run Tryd.prog w = .ok () w := run_eqGuard_agg w op 27 x y _ _ (by kernel_rfl)

theorem index27 (v : V) (k : IntKind) (i : Nat) (w : World) (h : i < 16) : (Instr.index 27 (.agg v.arr) (.int k (i : Int))).run Tryd.prog w = .ok (.int .u32 (v.at_ i : Int)) w := by
  have hz : (sizeOf 22).run Tryd.prog w = .ok 1 w := by kernel_rfl
  simp [Instr.index, asIntOf, Sem.run_bind, run_underlying und27, Sem.run_ite, h, hz, part, v.cs_at h]

/-- A block behind a store of the whole. -/
theorem Blk.row {w : World} {g : Nat} {t : TypeId} {cs ds : Array Value} (h : Blk w g t cs) : Blk (w.setRow g ds) g t ds := by
  unfold Blk at h ⊢
  simp [World.setRow, Array.getElem?_modify, h]
theorem Kept.setRow (w : World) (g : Nat) (ds : Array Value) : Kept (fun k => k = g) w (w.setRow g ds) :=
  ⟨rfl, rfl, rfl, by simp [World.setRow], fun k _ hn => by
    simp only [World.setRow, Array.getElem?_modify]
    rw [if_neg (fun e => hn e.symm)]⟩

theorem wpList_load27 {ops : Array Oper} {rest : List Oper} {o : Oper} {act : Act} {Q : Exit → Act → World → Prop} {W : World} {g : Nat} {v : V} (hgd : o.guard = none) {x : Operand} (ho : o.op = .load 27 x) (hx : act.eval x = .pointer (some ⟨g, 0, none⟩)) (h : Blk W g 27 v.arr)
    (k : wpList Tryd.prog ops Q rest (act.put o.dst (.agg v.arr)) W) : wpList Tryd.prog ops Q (o :: rest) act W :=
  wpList_plain hgd fun _ hK => by
    unfold Oper.wp execOp
    simp only [ho, hx, Sem.run_bind, load27 h, Result.andThen_ok]
    exact hK _ _ k

theorem wpList_store27 {ops : Array Oper} {rest : List Oper} {o : Oper} {act : Act} {Q : Exit → Act → World → Prop} {W : World} {g : Nat} {v u : V} (hgd : o.guard = none) {x y : Operand} (ho : o.op = .store 27 x y) (hx : act.eval x = .pointer (some ⟨g, 0, none⟩)) (hy : act.eval y = .agg u.arr) (h : Blk W g 27 v.arr)
    (k : wpList Tryd.prog ops Q rest (act.put o.dst undef) (W.setRow g u.arr)) : wpList Tryd.prog ops Q (o :: rest) act W :=
  wpList_plain hgd fun _ hK => by
    unfold Oper.wp execOp
    simp only [ho, hx, hy, Sem.run_bind, store27 (u := u) h, Result.andThen_ok]
    exact hK _ _ k

theorem loadVar27 {w : World} {g : Nat} {v : V} (h : Blk w g 27 v.arr) : (loadVar 27 ⟨g, 0, none⟩).run Tryd.prog w = .ok (.agg v.arr) w := by
  have hi : (Tryd.prog.info? 27).map (·.size) = some v.arr.size := by rw [v.arr_size]; exact size27
  exact run_loadVar_row _ _ 27 27 v.arr (0, 0) _ h und27 rfl hi

theorem ret27 {fn : Func} {t : Tmp} (h : fn.results = #[.cell t 27]) {tmps : Array Value} {w : World} {g : Nat} {v : V} (hx : tmps.getD t undef = .pointer (some ⟨g, 0, none⟩)) (hb : Blk w g 27 v.arr) :
    (results fn tmps).run Tryd.prog w = .ok (.agg v.arr) w := by
  have hx' : tmps[t]?.getD undef = .pointer (some ⟨g, 0, none⟩) := by rw [← hx]; simp [Array.getD_eq_getD_getElem?]
  simp only [results, h]
  simp [hx', asAddr, loadVar27 hb]

theorem ret27_two {fn : Func} {t s : Tmp} (h : fn.results = #[.cell t 27, .tmp s]) {tmps : Array Value} {w : World} {g : Nat} {v : V} {y : Value} (hx : tmps.getD t undef = .pointer (some ⟨g, 0, none⟩)) (hy : tmps.getD s undef = y) (hb : Blk w g 27 v.arr) :
    (results fn tmps).run Tryd.prog w = .ok (.tuple #[.agg v.arr, y]) w := by
  rw [results_cell_tmp h, hx, hy]
  simp [Result.andThen, asAddr, loadVar27 hb]

theorem Kept.at_ {S : Nat → Prop} {w w' : World} (k : Kept S w w') {b o : Nat} {v : Value} (h : w.cell? ⟨b, o, Option.none⟩ = some v) (hn : ¬ S b) : w'.cell? ⟨b, o, Option.none⟩ = some v :=
  (World.cell?_of_block (w := w) (w' := w') (a := ⟨b, o, Option.none⟩) (k.block b (block_lt_of_cell h) hn)).trans h

theorem below_at {w w' : World} (k : Below w.heap.size w w') {b o : Nat} {v : Value} (h : w.cell? ⟨b, o, none⟩ = some v) : w'.cell? ⟨b, o, none⟩ = some v :=
  (k.cell (p := ⟨b, o, none⟩) (block_lt_of_cell h)).trans h

theorem below_two (w : World) (o o' : Obj) : Below w.heap.size w ((w.alloc o).alloc o').drew := (((Below.refl _ _).alloc (Nat.le_refl _) _).alloc (by simp) _).drew
theorem below_two' (w : World) (o o' : Obj) : Below w.heap.size w ((w.alloc o).alloc o') := ((Below.refl _ _).alloc (Nat.le_refl _) _).alloc (by simp) _

end Go.Proofs.YtfnaccmgmocolaaDoor
