/- Keys and places in the program: their cells, loads, stores, comparisons, of the program's types and of the document's; slices of them, and of numbers. -/
import Derived.Test.YtcgbkfnjohbglaaDoorPg
import Derived.Test.YtcgbkfnjohbglaaDoorOl
import Derived.Great.BuildSlice
import Derived.Deep.WholeRow
namespace Go.Proofs.YtcgbkfnjohbglaaDoor
open Go.RowKit

/-- The cells of a key, and of a place. -/
def Ky.cs (e : Ky) : List Value := [.int .u16 (e.c : Int), .int .u8 (e.r : Int), .int .u32 (e.s : Int)]
abbrev Ky.arr (e : Ky) : Array Value := e.cs.toArray
def Lo.cs (t : Lo) : List Value := [.int .u32 (t.g : Int), .int .u32 (t.t : Int)]
abbrev Lo.arr (t : Lo) : Array Value := t.cs.toArray
def Kd.cs (t : Kd) : List Value := [.int .u32 (t.n : Int)]
abbrev Kd.arr (t : Kd) : Array Value := t.cs.toArray
theorem Ky.cs_len (e : Ky) : e.cs.length = 3 := rfl
theorem Lo.cs_len (e : Lo) : e.cs.length = 2 := rfl
theorem Ky.arr_size (e : Ky) : e.arr.size = 3 := rfl
theorem Lo.arr_size (e : Lo) : e.arr.size = 2 := rfl
theorem Kd.arr_size (e : Kd) : e.arr.size = 1 := rfl
theorem Ky.one_cs (e : Ky) : ∀ u ∈ e.cs, u.oneCell' = true := by
  intro u hu
  simp only [Ky.cs, List.mem_cons, List.not_mem_nil, or_false] at hu
  rcases hu with rfl | rfl | rfl <;> rfl
theorem Lo.one_cs (e : Lo) : ∀ u ∈ e.cs, u.oneCell' = true := by
  intro u hu
  simp only [Lo.cs, List.mem_cons, List.not_mem_nil, or_false] at hu
  rcases hu with rfl | rfl <;> rfl
theorem Kd.one_cs (e : Kd) : ∀ u ∈ e.cs, u.oneCell' = true := by
  intro u hu
  simp only [Kd.cs, List.mem_cons, List.not_mem_nil, or_false] at hu
  rcases hu with rfl; rfl
theorem Ky.arr_one (e : Ky) : e.arr.all (·.oneCell') = true := all_oneCell_toArray e.one_cs
theorem Lo.arr_one (e : Lo) : e.arr.all (·.oneCell') = true := all_oneCell_toArray e.one_cs
theorem GL.nil (w : World) (size : Nat) (a : Option Addr) : GL w size a 0 [] := ⟨rfl, .inl rfl⟩
def cellsK (l : List Ky) : List (List Value) := l.map Ky.cs
abbrev KL (w : World) (a : Option Addr) (n : Nat) (l : List Ky) : Prop := GL w 3 a n (cellsK l)
theorem KL.len' {w : World} {a : Option Addr} {n : Nat} {l : List Ky} (h : KL w a n l) : l.length = n := by have := h.len; simpa [cellsK] using this
theorem cellsK_each (l : List Ky) : ∀ v ∈ cellsK l, v.length = 3 := by
  intro v hv
  obtain ⟨x, _, rfl⟩ := List.mem_map.1 hv
  rfl
theorem cellsK_snoc (l : List Ky) (x : Ky) : cellsK l ++ [x.arr.toList] = cellsK (l ++ [x]) := by simp [cellsK]
/-- A nonempty list's place, and one of its elements. -/
theorem KL.at {w : World} {a : Option Addr} {n i : Nat} {l : List Ky} (h : KL w a n l) (hi : i < n) : ∃ b off x, a = some ⟨b, off, none⟩ ∧ l[i]? = some x ∧ w.rangeAt b (off + i * 3) x.cs := by
  have hl := h.len'
  rcases h.cells with h0 | ⟨b, off, ha, hc⟩
  · omega
  · have hi' : i < l.length := by omega
    exact ⟨b, off, l[i], ha, List.getElem?_eq_getElem hi', hc i _ (by simp [cellsK, hi'])⟩
theorem KL.rng {w : World} {b off n i : Nat} {l : List Ky} {x : Ky} (h : KL w (some ⟨b, off, none⟩) n l) (hx : l[i]? = some x) : w.rangeAt b (off + i * 3) x.cs := by
  rcases h.cells with h0 | ⟨b', off', ha, hc⟩
  · have := h.len'; have := (List.getElem?_eq_some_iff.1 hx).1; omega
  · cases ha
    exact hc i _ (by simp [cellsK, hx])
def cellsL (l : List Lo) : List (List Value) := l.map Lo.cs
abbrev LL (w : World) (a : Option Addr) (n : Nat) (l : List Lo) : Prop := GL w 2 a n (cellsL l)
theorem LL.len' {w : World} {a : Option Addr} {n : Nat} {l : List Lo} (h : LL w a n l) : l.length = n := by have := h.len; simpa [cellsL] using this
theorem cellsL_each (l : List Lo) : ∀ v ∈ cellsL l, v.length = 2 := by
  intro v hv
  obtain ⟨x, _, rfl⟩ := List.mem_map.1 hv
  rfl
theorem cellsL_snoc (l : List Lo) (x : Lo) : cellsL l ++ [x.arr.toList] = cellsL (l ++ [x]) := by simp [cellsL]
/-- A nonempty list's place, and one of its elements. -/
theorem LL.at {w : World} {a : Option Addr} {n i : Nat} {l : List Lo} (h : LL w a n l) (hi : i < n) : ∃ b off x, a = some ⟨b, off, none⟩ ∧ l[i]? = some x ∧ w.rangeAt b (off + i * 2) x.cs := by
  have hl := h.len'
  rcases h.cells with h0 | ⟨b, off, ha, hc⟩
  · omega
  · have hi' : i < l.length := by omega
    exact ⟨b, off, l[i], ha, List.getElem?_eq_getElem hi', hc i _ (by simp [cellsL, hi'])⟩
theorem LL.rng {w : World} {b off n i : Nat} {l : List Lo} {x : Lo} (h : LL w (some ⟨b, off, none⟩) n l) (hx : l[i]? = some x) : w.rangeAt b (off + i * 2) x.cs := by
  rcases h.cells with h0 | ⟨b', off', ha, hc⟩
  · have := h.len'; have := (List.getElem?_eq_some_iff.1 hx).1; omega
  · cases ha
    exact hc i _ (by simp [cellsL, hx])
def cellsD (l : List Kd) : List (List Value) := l.map Kd.cs
abbrev DL (w : World) (a : Option Addr) (n : Nat) (l : List Kd) : Prop := GL w 1 a n (cellsD l)
theorem DL.len' {w : World} {a : Option Addr} {n : Nat} {l : List Kd} (h : DL w a n l) : l.length = n := by have := h.len; simpa [cellsD] using this
theorem cellsD_each (l : List Kd) : ∀ v ∈ cellsD l, v.length = 1 := by
  intro v hv
  obtain ⟨x, _, rfl⟩ := List.mem_map.1 hv
  rfl
theorem cellsD_snoc (l : List Kd) (x : Kd) : cellsD l ++ [x.arr.toList] = cellsD (l ++ [x]) := by simp [cellsD]
/-- A nonempty list's place, and one of its elements. -/
theorem DL.at {w : World} {a : Option Addr} {n i : Nat} {l : List Kd} (h : DL w a n l) (hi : i < n) : ∃ b off x, a = some ⟨b, off, none⟩ ∧ l[i]? = some x ∧ w.rangeAt b (off + i * 1) x.cs := by
  have hl := h.len'
  rcases h.cells with h0 | ⟨b, off, ha, hc⟩
  · omega
  · have hi' : i < l.length := by omega
    exact ⟨b, off, l[i], ha, List.getElem?_eq_getElem hi', hc i _ (by simp [cellsD, hi'])⟩
theorem DL.rng {w : World} {b off n i : Nat} {l : List Kd} {x : Kd} (h : DL w (some ⟨b, off, none⟩) n l) (hx : l[i]? = some x) : w.rangeAt b (off + i * 1) x.cs := by
  rcases h.cells with h0 | ⟨b', off', ha, hc⟩
  · have := h.len'; have := (List.getElem?_eq_some_iff.1 hx).1; omega
  · cases ha
    exact hc i _ (by simp [cellsD, hx])

theorem und42 : Tryd.prog.underlying 42 = some (.struct (Tryd.prog.fieldsOf 42)) := by kernel_rfl
theorem und37 : Tryd.prog.underlying 37 = some (.slice 42) := Tryd.underlying37
theorem size42 : (Tryd.prog.info? 42).map (·.size) = some 3 := by kernel_rfl
theorem info42 : (Tryd.prog.info? 42).map (fun i => (i.zero, i.size, i.bytes)) = some (some (.agg Ky.zero.arr), 3, 12) := by
  rw [show Ky.zero.arr = #[.int .u16 0, .int .u8 0, .int .u32 0] from rfl]; kernel_rfl
theorem info42z : (Tryd.prog.info? 42).map (fun i => (i.zero, i.size)) = some (some (.agg Ky.zero.arr), 3) := by
  rw [show Ky.zero.arr = #[.int .u16 0, .int .u8 0, .int .u32 0] from rfl]; kernel_rfl
theorem box42 (o : Ky) (w : World) : (Instr.box 42 (.agg o.arr)).run Tryd.prog w = .ok (.pointer (some ⟨w.heap.size, 0, none⟩)) (w.alloc (.cells o.arr 42)) := by
  simp [Instr.box, newVar, newRow, Value.cells, go_sem]
theorem alloc42 (w : World) : (Instr.alloc 42 true (.tuple #[])).run Tryd.prog w = .ok (.pointer (some ⟨w.heap.size, 0, none⟩)) (w.alloc (.cells Ky.zero.arr 42)) := by
  simp only [Instr.alloc, Sem.run_bind, (zero_of_info info42z).1, Result.andThen_ok]
  simp [newVar, newRow, Value.cells, go_sem]
theorem loadVar42 {w : World} {g : Nat} {o : Ky} (h : Blk w g 42 o.arr) : (loadVar 42 ⟨g, 0, none⟩).run Tryd.prog w = .ok (.agg o.arr) w :=
  run_loadVar_row _ _ 42 42 o.arr (0, 0) _ h und42 rfl (by rw [o.arr_size]; exact size42)
theorem load42 {w : World} {g : Nat} {o : Ky} (h : Blk w g 42 o.arr) : (Instr.loadAt 42 (.pointer (some ⟨g, 0, none⟩))).run Tryd.prog w = .ok (.agg o.arr) w := by
  simp only [Instr.loadAt, Instr.sureAddr, Sem.run_bind, Sem.run_pure, Result.andThen]
  exact loadVar42 h
theorem store42 {w : World} {g : Nat} {o u : Ky} (h : Blk w g 42 o.arr) : (Instr.storeAt 42 (.pointer (some ⟨g, 0, none⟩)) (.agg u.arr)).run Tryd.prog w = .ok () (w.setRow g u.arr) := by
  simp only [Instr.storeAt, Instr.sureAddr, Sem.run_bind, Sem.run_pure, Result.andThen]
  exact run_storeVar_row _ _ 42 42 o.arr u.arr h (by rw [u.arr_size]; exact size42) (by rw [o.arr_size, u.arr_size]) u.arr_one
section
variable {ev : Operand → Value} {q : Oper} {w : World}
theorem exec_load42 {x : Operand} {g : Nat} {p : Ky} (ho : q.op = .load 42 x) (hx : ev x = .pointer (some ⟨g, 0, none⟩)) (h : Blk w g 42 p.arr) : (execOp ev q).run Tryd.prog w = .ok (.value (.agg p.arr)) w := exec_cell ho hx (load42 h)
theorem exec_store42 {x y : Operand} {g : Nat} {p u : Ky} (ho : q.op = .store 42 x y) (hx : ev x = .pointer (some ⟨g, 0, none⟩)) (hy : ev y = .agg u.arr) (h : Blk w g 42 p.arr) : (execOp ev q).run Tryd.prog w = .ok .skip (w.setRow g u.arr) := by
  unfold execOp
  simp only [ho, hx, hy, Sem.run_bind, store42 (u := u) h, Result.andThen_ok]
  rfl
theorem exec_alloc42z {z : Ky} (hz : Ky.zero = z) (ho : q.op = .alloc 42) : (execOp ev q).run Tryd.prog w = .ok (.value (.pointer (some ⟨w.heap.size, 0, none⟩))) (w.alloc (.cells z.arr 42)) := by
  subst hz
  unfold execOp
  simp only [ho, Sem.run_bind, alloc42, Result.andThen_ok]
  rfl
theorem exec_idx42 {x y : Operand} {b off n cap i : Nat} {z : Int} (ho : q.op = .indexAddr 37 x y) (hx : ev x = .slice (some ⟨b, off, none⟩) n cap) (hy : ev y = .int .i64 z) (hz : z = (i : Int)) (hi : i < n) : (execOp ev q).run Tryd.prog w = .ok (.value (.pointer (some ⟨b, off + i * 3, none⟩))) w := by
  subst hz
  have u := und37
  have z1 : ∀ w, (Go.sizeOf 42).run Tryd.prog w = .ok 3 w := Tryd.sizeOf42
  unfold execOp
  simp only [ho, hx, hy]
  go_simp
theorem exec_ld42 {x : Operand} {b off : Nat} {p : Ky} (ho : q.op = .load 42 x) (hx : ev x = .pointer (some ⟨b, off, none⟩)) (h : w.rangeAt b off p.cs) : (execOp ev q).run Tryd.prog w = .ok (.value (.agg p.arr)) w := by
  have hl := run_loadVar_mid (P := Tryd.prog) w b off 42 p.cs _ h und42 rfl (by rw [p.cs_len]; exact size42)
  refine exec_cell ho hx ?_
  simp only [Instr.loadAt, Instr.sureAddr, Sem.run_bind, Sem.run_pure, Result.andThen_ok, hl]
end
section
variable {ops : Array Oper} {rest : List Oper} {o : Oper} {act : Act} {Q : Exit → Act → World → Prop} {W : World}
theorem wpList_stop42 {x y : Operand} (_ho : o.op = .store 42 x y) (k : Halt_ (wpList Tryd.prog ops Q (o :: rest) act W)) : wpList Tryd.prog ops Q (o :: rest) act W := k.out
end
/-- One in a slice of its own. -/
theorem bs42 (p : Ky) (w : World) : (Instr.buildSlice 37 1 #[(0, .agg p.arr)]).run Tryd.prog w = .ok (.slice (some ⟨w.heap.size, 0, none⟩) 1 1) (w.alloc (.cells p.arr 42)) := by
  obtain ⟨i0, hi, hz0, hz1, hz2⟩ := info_parts info42
  refine run_buildSlice w 37 42 1 _ _ i0 _ und37 hi hz0 (by rw [hz1]; omega) (by rw [hz1]; omega) ?_
  rw [hz1]
  kernel_rfl
theorem exec_bs42 {ev : Operand → Value} {q : Oper} {w : World} {x : Operand} {p : Ky} (ho : q.op = .buildSlice 37 1 #[(0, x)]) (hx : ev x = .agg p.arr) : (execOp ev q).run Tryd.prog w = .ok (.value (.slice (some ⟨w.heap.size, 0, none⟩) 1 1)) (w.alloc (.cells p.arr 42)) := by
  have hm : (#[((0 : Nat), x)]).map (fun (i, x) => (i, ev x)) = #[(0, Value.agg p.arr)] := by simp [hx]
  unfold execOp
  simp only [ho, hm, Sem.run_bind, bs42 p w, Result.andThen_ok]
  rfl

theorem und32 : Tryd.prog.underlying 32 = some (.struct (Tryd.prog.fieldsOf 32)) := by kernel_rfl
theorem und22 : Tryd.prog.underlying 22 = some (.slice 32) := Tryd.underlying22
theorem size32 : (Tryd.prog.info? 32).map (·.size) = some 3 := by kernel_rfl
theorem info32 : (Tryd.prog.info? 32).map (fun i => (i.zero, i.size, i.bytes)) = some (some (.agg Ky.zero.arr), 3, 12) := by
  rw [show Ky.zero.arr = #[.int .u16 0, .int .u8 0, .int .u32 0] from rfl]; kernel_rfl
theorem info32z : (Tryd.prog.info? 32).map (fun i => (i.zero, i.size)) = some (some (.agg Ky.zero.arr), 3) := by
  rw [show Ky.zero.arr = #[.int .u16 0, .int .u8 0, .int .u32 0] from rfl]; kernel_rfl
theorem box32 (o : Ky) (w : World) : (Instr.box 32 (.agg o.arr)).run Tryd.prog w = .ok (.pointer (some ⟨w.heap.size, 0, none⟩)) (w.alloc (.cells o.arr 32)) := by
  simp [Instr.box, newVar, newRow, Value.cells, go_sem]
theorem alloc32 (w : World) : (Instr.alloc 32 true (.tuple #[])).run Tryd.prog w = .ok (.pointer (some ⟨w.heap.size, 0, none⟩)) (w.alloc (.cells Ky.zero.arr 32)) := by
  simp only [Instr.alloc, Sem.run_bind, (zero_of_info info32z).1, Result.andThen_ok]
  simp [newVar, newRow, Value.cells, go_sem]
theorem loadVar32 {w : World} {g : Nat} {o : Ky} (h : Blk w g 32 o.arr) : (loadVar 32 ⟨g, 0, none⟩).run Tryd.prog w = .ok (.agg o.arr) w :=
  run_loadVar_row _ _ 32 32 o.arr (0, 0) _ h und32 rfl (by rw [o.arr_size]; exact size32)
theorem load32 {w : World} {g : Nat} {o : Ky} (h : Blk w g 32 o.arr) : (Instr.loadAt 32 (.pointer (some ⟨g, 0, none⟩))).run Tryd.prog w = .ok (.agg o.arr) w := by
  simp only [Instr.loadAt, Instr.sureAddr, Sem.run_bind, Sem.run_pure, Result.andThen]
  exact loadVar32 h
theorem store32 {w : World} {g : Nat} {o u : Ky} (h : Blk w g 32 o.arr) : (Instr.storeAt 32 (.pointer (some ⟨g, 0, none⟩)) (.agg u.arr)).run Tryd.prog w = .ok () (w.setRow g u.arr) := by
  simp only [Instr.storeAt, Instr.sureAddr, Sem.run_bind, Sem.run_pure, Result.andThen]
  exact run_storeVar_row _ _ 32 32 o.arr u.arr h (by rw [u.arr_size]; exact size32) (by rw [o.arr_size, u.arr_size]) u.arr_one
section
variable {ev : Operand → Value} {q : Oper} {w : World}
theorem exec_load32 {x : Operand} {g : Nat} {p : Ky} (ho : q.op = .load 32 x) (hx : ev x = .pointer (some ⟨g, 0, none⟩)) (h : Blk w g 32 p.arr) : (execOp ev q).run Tryd.prog w = .ok (.value (.agg p.arr)) w := exec_cell ho hx (load32 h)
theorem exec_store32 {x y : Operand} {g : Nat} {p u : Ky} (ho : q.op = .store 32 x y) (hx : ev x = .pointer (some ⟨g, 0, none⟩)) (hy : ev y = .agg u.arr) (h : Blk w g 32 p.arr) : (execOp ev q).run Tryd.prog w = .ok .skip (w.setRow g u.arr) := by
  unfold execOp
  simp only [ho, hx, hy, Sem.run_bind, store32 (u := u) h, Result.andThen_ok]
  rfl
theorem exec_alloc32z {z : Ky} (hz : Ky.zero = z) (ho : q.op = .alloc 32) : (execOp ev q).run Tryd.prog w = .ok (.value (.pointer (some ⟨w.heap.size, 0, none⟩))) (w.alloc (.cells z.arr 32)) := by
  subst hz
  unfold execOp
  simp only [ho, Sem.run_bind, alloc32, Result.andThen_ok]
  rfl
theorem exec_idx32 {x y : Operand} {b off n cap i : Nat} {z : Int} (ho : q.op = .indexAddr 22 x y) (hx : ev x = .slice (some ⟨b, off, none⟩) n cap) (hy : ev y = .int .i64 z) (hz : z = (i : Int)) (hi : i < n) : (execOp ev q).run Tryd.prog w = .ok (.value (.pointer (some ⟨b, off + i * 3, none⟩))) w := by
  subst hz
  have u := und22
  have z1 : ∀ w, (Go.sizeOf 32).run Tryd.prog w = .ok 3 w := Tryd.sizeOf32
  unfold execOp
  simp only [ho, hx, hy]
  go_simp
theorem exec_ld32 {x : Operand} {b off : Nat} {p : Ky} (ho : q.op = .load 32 x) (hx : ev x = .pointer (some ⟨b, off, none⟩)) (h : w.rangeAt b off p.cs) : (execOp ev q).run Tryd.prog w = .ok (.value (.agg p.arr)) w := by
  have hl := run_loadVar_mid (P := Tryd.prog) w b off 32 p.cs _ h und32 rfl (by rw [p.cs_len]; exact size32)
  refine exec_cell ho hx ?_
  simp only [Instr.loadAt, Instr.sureAddr, Sem.run_bind, Sem.run_pure, Result.andThen_ok, hl]
end
section
variable {ops : Array Oper} {rest : List Oper} {o : Oper} {act : Act} {Q : Exit → Act → World → Prop} {W : World}
theorem wpList_stop32 {x y : Operand} (_ho : o.op = .store 32 x y) (k : Halt_ (wpList Tryd.prog ops Q (o :: rest) act W)) : wpList Tryd.prog ops Q (o :: rest) act W := k.out
end
/-- One in a slice of its own. -/
theorem bs32 (p : Ky) (w : World) : (Instr.buildSlice 22 1 #[(0, .agg p.arr)]).run Tryd.prog w = .ok (.slice (some ⟨w.heap.size, 0, none⟩) 1 1) (w.alloc (.cells p.arr 32)) := by
  obtain ⟨i0, hi, hz0, hz1, hz2⟩ := info_parts info32
  refine run_buildSlice w 22 32 1 _ _ i0 _ und22 hi hz0 (by rw [hz1]; omega) (by rw [hz1]; omega) ?_
  rw [hz1]
  kernel_rfl
theorem exec_bs32 {ev : Operand → Value} {q : Oper} {w : World} {x : Operand} {p : Ky} (ho : q.op = .buildSlice 22 1 #[(0, x)]) (hx : ev x = .agg p.arr) : (execOp ev q).run Tryd.prog w = .ok (.value (.slice (some ⟨w.heap.size, 0, none⟩) 1 1)) (w.alloc (.cells p.arr 32)) := by
  have hm : (#[((0 : Nat), x)]).map (fun (i, x) => (i, ev x)) = #[(0, Value.agg p.arr)] := by simp [hx]
  unfold execOp
  simp only [ho, hm, Sem.run_bind, bs32 p w, Result.andThen_ok]
  rfl

theorem und66 : Tryd.prog.underlying 66 = some (.struct (Tryd.prog.fieldsOf 66)) := by kernel_rfl
theorem und38 : Tryd.prog.underlying 38 = some (.slice 66) := Tryd.underlying38
theorem size66 : (Tryd.prog.info? 66).map (·.size) = some 2 := by kernel_rfl
theorem info66 : (Tryd.prog.info? 66).map (fun i => (i.zero, i.size, i.bytes)) = some (some (.agg Lo.zero.arr), 2, 8) := by
  rw [show Lo.zero.arr = #[.int .u32 0, .int .u32 0] from rfl]; kernel_rfl
theorem info66z : (Tryd.prog.info? 66).map (fun i => (i.zero, i.size)) = some (some (.agg Lo.zero.arr), 2) := by
  rw [show Lo.zero.arr = #[.int .u32 0, .int .u32 0] from rfl]; kernel_rfl
theorem box66 (o : Lo) (w : World) : (Instr.box 66 (.agg o.arr)).run Tryd.prog w = .ok (.pointer (some ⟨w.heap.size, 0, none⟩)) (w.alloc (.cells o.arr 66)) := by
  simp [Instr.box, newVar, newRow, Value.cells, go_sem]
theorem alloc66 (w : World) : (Instr.alloc 66 true (.tuple #[])).run Tryd.prog w = .ok (.pointer (some ⟨w.heap.size, 0, none⟩)) (w.alloc (.cells Lo.zero.arr 66)) := by
  simp only [Instr.alloc, Sem.run_bind, (zero_of_info info66z).1, Result.andThen_ok]
  simp [newVar, newRow, Value.cells, go_sem]
theorem loadVar66 {w : World} {g : Nat} {o : Lo} (h : Blk w g 66 o.arr) : (loadVar 66 ⟨g, 0, none⟩).run Tryd.prog w = .ok (.agg o.arr) w :=
  run_loadVar_row _ _ 66 66 o.arr (0, 0) _ h und66 rfl (by rw [o.arr_size]; exact size66)
theorem load66 {w : World} {g : Nat} {o : Lo} (h : Blk w g 66 o.arr) : (Instr.loadAt 66 (.pointer (some ⟨g, 0, none⟩))).run Tryd.prog w = .ok (.agg o.arr) w := by
  simp only [Instr.loadAt, Instr.sureAddr, Sem.run_bind, Sem.run_pure, Result.andThen]
  exact loadVar66 h
theorem store66 {w : World} {g : Nat} {o u : Lo} (h : Blk w g 66 o.arr) : (Instr.storeAt 66 (.pointer (some ⟨g, 0, none⟩)) (.agg u.arr)).run Tryd.prog w = .ok () (w.setRow g u.arr) := by
  simp only [Instr.storeAt, Instr.sureAddr, Sem.run_bind, Sem.run_pure, Result.andThen]
  exact run_storeVar_row _ _ 66 66 o.arr u.arr h (by rw [u.arr_size]; exact size66) (by rw [o.arr_size, u.arr_size]) u.arr_one
section
variable {ev : Operand → Value} {q : Oper} {w : World}
theorem exec_load66 {x : Operand} {g : Nat} {p : Lo} (ho : q.op = .load 66 x) (hx : ev x = .pointer (some ⟨g, 0, none⟩)) (h : Blk w g 66 p.arr) : (execOp ev q).run Tryd.prog w = .ok (.value (.agg p.arr)) w := exec_cell ho hx (load66 h)
theorem exec_store66 {x y : Operand} {g : Nat} {p u : Lo} (ho : q.op = .store 66 x y) (hx : ev x = .pointer (some ⟨g, 0, none⟩)) (hy : ev y = .agg u.arr) (h : Blk w g 66 p.arr) : (execOp ev q).run Tryd.prog w = .ok .skip (w.setRow g u.arr) := by
  unfold execOp
  simp only [ho, hx, hy, Sem.run_bind, store66 (u := u) h, Result.andThen_ok]
  rfl
theorem exec_alloc66z {z : Lo} (hz : Lo.zero = z) (ho : q.op = .alloc 66) : (execOp ev q).run Tryd.prog w = .ok (.value (.pointer (some ⟨w.heap.size, 0, none⟩))) (w.alloc (.cells z.arr 66)) := by
  subst hz
  unfold execOp
  simp only [ho, Sem.run_bind, alloc66, Result.andThen_ok]
  rfl
theorem exec_idx66 {x y : Operand} {b off n cap i : Nat} {z : Int} (ho : q.op = .indexAddr 38 x y) (hx : ev x = .slice (some ⟨b, off, none⟩) n cap) (hy : ev y = .int .i64 z) (hz : z = (i : Int)) (hi : i < n) : (execOp ev q).run Tryd.prog w = .ok (.value (.pointer (some ⟨b, off + i * 2, none⟩))) w := by
  subst hz
  have u := und38
  have z1 : ∀ w, (Go.sizeOf 66).run Tryd.prog w = .ok 2 w := Tryd.sizeOf66
  unfold execOp
  simp only [ho, hx, hy]
  go_simp
theorem exec_ld66 {x : Operand} {b off : Nat} {p : Lo} (ho : q.op = .load 66 x) (hx : ev x = .pointer (some ⟨b, off, none⟩)) (h : w.rangeAt b off p.cs) : (execOp ev q).run Tryd.prog w = .ok (.value (.agg p.arr)) w := by
  have hl := run_loadVar_mid (P := Tryd.prog) w b off 66 p.cs _ h und66 rfl (by rw [p.cs_len]; exact size66)
  refine exec_cell ho hx ?_
  simp only [Instr.loadAt, Instr.sureAddr, Sem.run_bind, Sem.run_pure, Result.andThen_ok, hl]
end
section
variable {ops : Array Oper} {rest : List Oper} {o : Oper} {act : Act} {Q : Exit → Act → World → Prop} {W : World}
theorem wpList_stop66 {x y : Operand} (_ho : o.op = .store 66 x y) (k : Halt_ (wpList Tryd.prog ops Q (o :: rest) act W)) : wpList Tryd.prog ops Q (o :: rest) act W := k.out
end
/-- One in a slice of its own. -/
theorem bs66 (p : Lo) (w : World) : (Instr.buildSlice 38 1 #[(0, .agg p.arr)]).run Tryd.prog w = .ok (.slice (some ⟨w.heap.size, 0, none⟩) 1 1) (w.alloc (.cells p.arr 66)) := by
  obtain ⟨i0, hi, hz0, hz1, hz2⟩ := info_parts info66
  refine run_buildSlice w 38 66 1 _ _ i0 _ und38 hi hz0 (by rw [hz1]; omega) (by rw [hz1]; omega) ?_
  rw [hz1]
  kernel_rfl
theorem exec_bs66 {ev : Operand → Value} {q : Oper} {w : World} {x : Operand} {p : Lo} (ho : q.op = .buildSlice 38 1 #[(0, x)]) (hx : ev x = .agg p.arr) : (execOp ev q).run Tryd.prog w = .ok (.value (.slice (some ⟨w.heap.size, 0, none⟩) 1 1)) (w.alloc (.cells p.arr 66)) := by
  have hm : (#[((0 : Nat), x)]).map (fun (i, x) => (i, ev x)) = #[(0, Value.agg p.arr)] := by simp [hx]
  unfold execOp
  simp only [ho, hm, Sem.run_bind, bs66 p w, Result.andThen_ok]
  rfl

theorem und67 : Tryd.prog.underlying 67 = some (.struct (Tryd.prog.fieldsOf 67)) := by kernel_rfl
theorem und23 : Tryd.prog.underlying 23 = some (.slice 67) := Tryd.underlying23
theorem size67 : (Tryd.prog.info? 67).map (·.size) = some 2 := by kernel_rfl
theorem info67 : (Tryd.prog.info? 67).map (fun i => (i.zero, i.size, i.bytes)) = some (some (.agg Lo.zero.arr), 2, 8) := by
  rw [show Lo.zero.arr = #[.int .u32 0, .int .u32 0] from rfl]; kernel_rfl
theorem info67z : (Tryd.prog.info? 67).map (fun i => (i.zero, i.size)) = some (some (.agg Lo.zero.arr), 2) := by
  rw [show Lo.zero.arr = #[.int .u32 0, .int .u32 0] from rfl]; kernel_rfl
theorem box67 (o : Lo) (w : World) : (Instr.box 67 (.agg o.arr)).run Tryd.prog w = .ok (.pointer (some ⟨w.heap.size, 0, none⟩)) (w.alloc (.cells o.arr 67)) := by
  simp [Instr.box, newVar, newRow, Value.cells, go_sem]
theorem alloc67 (w : World) : (Instr.alloc 67 true (.tuple #[])).run Tryd.prog w = .ok (.pointer (some ⟨w.heap.size, 0, none⟩)) (w.alloc (.cells Lo.zero.arr 67)) := by
  simp only [Instr.alloc, Sem.run_bind, (zero_of_info info67z).1, Result.andThen_ok]
  simp [newVar, newRow, Value.cells, go_sem]
theorem loadVar67 {w : World} {g : Nat} {o : Lo} (h : Blk w g 67 o.arr) : (loadVar 67 ⟨g, 0, none⟩).run Tryd.prog w = .ok (.agg o.arr) w :=
  run_loadVar_row _ _ 67 67 o.arr (0, 0) _ h und67 rfl (by rw [o.arr_size]; exact size67)
theorem load67 {w : World} {g : Nat} {o : Lo} (h : Blk w g 67 o.arr) : (Instr.loadAt 67 (.pointer (some ⟨g, 0, none⟩))).run Tryd.prog w = .ok (.agg o.arr) w := by
  simp only [Instr.loadAt, Instr.sureAddr, Sem.run_bind, Sem.run_pure, Result.andThen]
  exact loadVar67 h
theorem store67 {w : World} {g : Nat} {o u : Lo} (h : Blk w g 67 o.arr) : (Instr.storeAt 67 (.pointer (some ⟨g, 0, none⟩)) (.agg u.arr)).run Tryd.prog w = .ok () (w.setRow g u.arr) := by
  simp only [Instr.storeAt, Instr.sureAddr, Sem.run_bind, Sem.run_pure, Result.andThen]
  exact run_storeVar_row _ _ 67 67 o.arr u.arr h (by rw [u.arr_size]; exact size67) (by rw [o.arr_size, u.arr_size]) u.arr_one
section
variable {ev : Operand → Value} {q : Oper} {w : World}
theorem exec_load67 {x : Operand} {g : Nat} {p : Lo} (ho : q.op = .load 67 x) (hx : ev x = .pointer (some ⟨g, 0, none⟩)) (h : Blk w g 67 p.arr) : (execOp ev q).run Tryd.prog w = .ok (.value (.agg p.arr)) w := exec_cell ho hx (load67 h)
theorem exec_store67 {x y : Operand} {g : Nat} {p u : Lo} (ho : q.op = .store 67 x y) (hx : ev x = .pointer (some ⟨g, 0, none⟩)) (hy : ev y = .agg u.arr) (h : Blk w g 67 p.arr) : (execOp ev q).run Tryd.prog w = .ok .skip (w.setRow g u.arr) := by
  unfold execOp
  simp only [ho, hx, hy, Sem.run_bind, store67 (u := u) h, Result.andThen_ok]
  rfl
theorem exec_alloc67z {z : Lo} (hz : Lo.zero = z) (ho : q.op = .alloc 67) : (execOp ev q).run Tryd.prog w = .ok (.value (.pointer (some ⟨w.heap.size, 0, none⟩))) (w.alloc (.cells z.arr 67)) := by
  subst hz
  unfold execOp
  simp only [ho, Sem.run_bind, alloc67, Result.andThen_ok]
  rfl
theorem exec_idx67 {x y : Operand} {b off n cap i : Nat} {z : Int} (ho : q.op = .indexAddr 23 x y) (hx : ev x = .slice (some ⟨b, off, none⟩) n cap) (hy : ev y = .int .i64 z) (hz : z = (i : Int)) (hi : i < n) : (execOp ev q).run Tryd.prog w = .ok (.value (.pointer (some ⟨b, off + i * 2, none⟩))) w := by
  subst hz
  have u := und23
  have z1 : ∀ w, (Go.sizeOf 67).run Tryd.prog w = .ok 2 w := Tryd.sizeOf67
  unfold execOp
  simp only [ho, hx, hy]
  go_simp
theorem exec_ld67 {x : Operand} {b off : Nat} {p : Lo} (ho : q.op = .load 67 x) (hx : ev x = .pointer (some ⟨b, off, none⟩)) (h : w.rangeAt b off p.cs) : (execOp ev q).run Tryd.prog w = .ok (.value (.agg p.arr)) w := by
  have hl := run_loadVar_mid (P := Tryd.prog) w b off 67 p.cs _ h und67 rfl (by rw [p.cs_len]; exact size67)
  refine exec_cell ho hx ?_
  simp only [Instr.loadAt, Instr.sureAddr, Sem.run_bind, Sem.run_pure, Result.andThen_ok, hl]
end
section
variable {ops : Array Oper} {rest : List Oper} {o : Oper} {act : Act} {Q : Exit → Act → World → Prop} {W : World}
theorem wpList_stop67 {x y : Operand} (_ho : o.op = .store 67 x y) (k : Halt_ (wpList Tryd.prog ops Q (o :: rest) act W)) : wpList Tryd.prog ops Q (o :: rest) act W := k.out
end
/-- One in a slice of its own. -/
theorem bs67 (p : Lo) (w : World) : (Instr.buildSlice 23 1 #[(0, .agg p.arr)]).run Tryd.prog w = .ok (.slice (some ⟨w.heap.size, 0, none⟩) 1 1) (w.alloc (.cells p.arr 67)) := by
  obtain ⟨i0, hi, hz0, hz1, hz2⟩ := info_parts info67
  refine run_buildSlice w 23 67 1 _ _ i0 _ und23 hi hz0 (by rw [hz1]; omega) (by rw [hz1]; omega) ?_
  rw [hz1]
  kernel_rfl
theorem exec_bs67 {ev : Operand → Value} {q : Oper} {w : World} {x : Operand} {p : Lo} (ho : q.op = .buildSlice 23 1 #[(0, x)]) (hx : ev x = .agg p.arr) : (execOp ev q).run Tryd.prog w = .ok (.value (.slice (some ⟨w.heap.size, 0, none⟩) 1 1)) (w.alloc (.cells p.arr 67)) := by
  have hm : (#[((0 : Nat), x)]).map (fun (i, x) => (i, ev x)) = #[(0, Value.agg p.arr)] := by simp [hx]
  unfold execOp
  simp only [ho, hm, Sem.run_bind, bs67 p w, Result.andThen_ok]
  rfl

theorem und24 : Tryd.prog.underlying 24 = some (.slice 28) := Tryd.underlying24
theorem info28 : (Tryd.prog.info? 28).map (fun i => (i.zero, i.size, i.bytes)) = some (some (.int .u32 0), 1, 4) := by kernel_rfl
section
variable {ev : Operand → Value} {q : Oper} {w : World}
theorem exec_idx28 {x y : Operand} {b off n cap i : Nat} {z : Int} (ho : q.op = .indexAddr 24 x y) (hx : ev x = .slice (some ⟨b, off, none⟩) n cap) (hy : ev y = .int .i64 z) (hz : z = (i : Int)) (hi : i < n) : (execOp ev q).run Tryd.prog w = .ok (.value (.pointer (some ⟨b, off + i * 1, none⟩))) w := by
  subst hz
  have u := und24
  have z1 : ∀ w, (Go.sizeOf 28).run Tryd.prog w = .ok 1 w := Tryd.sizeOf28
  unfold execOp
  simp only [ho, hx, hy]
  go_simp
theorem exec_ld28 {x : Operand} {b off : Nat} {n : Nat} (ho : q.op = .load 28 x) (hx : ev x = .pointer (some ⟨b, off, none⟩)) (h : w.rangeAt b off [.int .u32 (n : Int)]) : (execOp ev q).run Tryd.prog w = .ok (.value (.int .u32 (n : Int))) w :=
  exec_cell ho hx (load_cell (by kernel_rfl) (h 0 _ rfl))
end
theorem bs28 (n : Int) (w : World) : (Instr.buildSlice 24 1 #[(0, .int .u32 n)]).run Tryd.prog w = .ok (.slice (some ⟨w.heap.size, 0, none⟩) 1 1) (w.alloc (.cells #[.int .u32 n] 28)) := by
  obtain ⟨i0, hi, hz0, hz1, hz2⟩ := info_parts info28
  refine run_buildSlice w 24 28 1 _ _ i0 _ und24 hi hz0 (by rw [hz1]; omega) (by rw [hz1]; omega) ?_
  rw [hz1]
  kernel_rfl
theorem exec_bs28 {ev : Operand → Value} {q : Oper} {w : World} {x : Operand} {n : Int} (ho : q.op = .buildSlice 24 1 #[(0, x)]) (hx : ev x = .int .u32 n) : (execOp ev q).run Tryd.prog w = .ok (.value (.slice (some ⟨w.heap.size, 0, none⟩) 1 1)) (w.alloc (.cells #[.int .u32 n] 28)) := by
  have hm : (#[((0 : Nat), x)]).map (fun (i, x) => (i, ev x)) = #[(0, Value.int .u32 n)] := by simp [hx]
  unfold execOp
  simp only [ho, hm, Sem.run_bind, bs28 n w, Result.andThen_ok]
  rfl

theorem und83 : Tryd.prog.underlying 83 = some (.slice 72) := Tryd.underlying83
theorem info72 : (Tryd.prog.info? 72).map (fun i => (i.zero, i.size, i.bytes)) = some (some (.int .u64 0), 1, 8) := by kernel_rfl
section
variable {ev : Operand → Value} {q : Oper} {w : World}
theorem exec_idx72 {x y : Operand} {b off n cap i : Nat} {z : Int} (ho : q.op = .indexAddr 83 x y) (hx : ev x = .slice (some ⟨b, off, none⟩) n cap) (hy : ev y = .int .i64 z) (hz : z = (i : Int)) (hi : i < n) : (execOp ev q).run Tryd.prog w = .ok (.value (.pointer (some ⟨b, off + i * 1, none⟩))) w := by
  subst hz
  have u := und83
  have z1 : ∀ w, (Go.sizeOf 72).run Tryd.prog w = .ok 1 w := Tryd.sizeOf72
  unfold execOp
  simp only [ho, hx, hy]
  go_simp
theorem exec_ld72 {x : Operand} {b off : Nat} {n : Nat} (ho : q.op = .load 72 x) (hx : ev x = .pointer (some ⟨b, off, none⟩)) (h : w.rangeAt b off [.int .u64 (n : Int)]) : (execOp ev q).run Tryd.prog w = .ok (.value (.int .u64 (n : Int))) w :=
  exec_cell ho hx (load_cell (by kernel_rfl) (h 0 _ rfl))
end
theorem bs72 (n : Int) (w : World) : (Instr.buildSlice 83 1 #[(0, .int .u64 n)]).run Tryd.prog w = .ok (.slice (some ⟨w.heap.size, 0, none⟩) 1 1) (w.alloc (.cells #[.int .u64 n] 72)) := by
  obtain ⟨i0, hi, hz0, hz1, hz2⟩ := info_parts info72
  refine run_buildSlice w 83 72 1 _ _ i0 _ und83 hi hz0 (by rw [hz1]; omega) (by rw [hz1]; omega) ?_
  rw [hz1]
  kernel_rfl
theorem exec_bs72 {ev : Operand → Value} {q : Oper} {w : World} {x : Operand} {n : Int} (ho : q.op = .buildSlice 83 1 #[(0, x)]) (hx : ev x = .int .u64 n) : (execOp ev q).run Tryd.prog w = .ok (.value (.slice (some ⟨w.heap.size, 0, none⟩) 1 1)) (w.alloc (.cells #[.int .u64 n] 72)) := by
  have hm : (#[((0 : Nat), x)]).map (fun (i, x) => (i, ev x)) = #[(0, Value.int .u64 n)] := by simp [hx]
  unfold execOp
  simp only [ho, hm, Sem.run_bind, bs72 n w, Result.andThen_ok]
  rfl

/-! Comparisons. -/
theorem eqF_any {d : Nat} {xs ys : Array Value} {f : Field} {fs : List Field} {w : World} {r r2 : Bool} (a b : Value) (hn : f.name ≠ "_") (h1 : (part f.type xs f.offset).run Tryd.prog w = .ok a w) (h2 : (part f.type ys f.offset).run Tryd.prog w = .ok b w) (h3 : (Op.equalIn d f.type a b).run Tryd.prog w = .ok r w)
    (h : (Op.eqFields d xs ys fs).run Tryd.prog w = .ok r2 w) : (Op.eqFields d xs ys (f :: fs)).run Tryd.prog w = .ok (r && r2) w := by
  cases r <;> simp [Op.eqFields, Sem.run_bind, hn, h1, h2, h3, h]
theorem eqF_nil {d : Nat} {xs ys : Array Value} {w : World} : (Op.eqFields d xs ys []).run Tryd.prog w = .ok true w := by simp [Op.eqFields]
theorem eq_intsD (d : Nat) (t : TypeId) (k : IntKind) (a b : Int) (w : World) (h : Tryd.prog.underlying t = some (.int k)) : (Op.equalIn (d + 1) t (.int k a) (.int k b)).run Tryd.prog w = .ok (a == b) w :=
  run_equalIn_int (P := Tryd.prog) w d t k k a b h
theorem dpart (u v : Value) (w : World) {t : TypeId} {off : Nat} {x : Value} (ha : (isAgg t).run Tryd.prog w = .ok false w) (hv : [u, v][off]? = some x) : (part t #[u, v] off).run Tryd.prog w = .ok x w := by
  have hv' : #[u, v][off]? = some x := by simpa using hv
  simp [part, ha, hv', go_sem]
theorem kpart (u v y : Value) (w : World) {t : TypeId} {off : Nat} {x : Value} (ha : (isAgg t).run Tryd.prog w = .ok false w) (hv : [u, v, y][off]? = some x) : (part t #[u, v, y] off).run Tryd.prog w = .ok x w := by
  have hv' : #[u, v, y][off]? = some x := by simpa using hv
  simp [part, ha, hv', go_sem]
def dotV (r s : Nat) : Value := .agg #[.int .u8 (r : Int), .int .u32 (s : Int)]
theorem kpart_dot (e : Ky) (w : World) : (part 30 e.arr 1).run Tryd.prog w = .ok (dotV e.r e.s) w := by
  have ha : (isAgg 30).run Tryd.prog w = .ok true w := by kernel_rfl
  have hz : (Go.sizeOf 30).run Tryd.prog w = .ok 2 w := by kernel_rfl
  simp only [part, Sem.run_bind, ha, hz, Result.andThen_ok, if_true, Sem.run_pure]
  rfl
theorem eq_dots (r s r' s' : Nat) (w : World) : (Op.equalIn 9999 30 (dotV r s) (dotV r' s')).run Tryd.prog w = .ok (r == r' && s == s') w := by
  have hS : Tryd.prog.underlying 30 = some (.struct (Tryd.prog.fieldsOf 30)) := by kernel_rfl
  have hp : Tryd.prog.stoodInHeld 30 = false := by kernel_rfl
  have hE : (r == r' && s == s') = (((r : Int) == (r' : Int)) && (((s : Int) == (s' : Int)) && true)) := by
    rw [Bool.eq_iff_iff]
    simp only [Bool.and_eq_true, beq_iff_eq, Int.natCast_inj, and_true]
  unfold dotV
  rw [hE, show (9999 : Nat) = 9998 + 1 from rfl, run_equalIn_agg w 9998 30 _ _ hS hp]
  simp only [Program.fieldsOf, Tryd.underlying30]
  refine eqF_any (.int .u8 (r : Int)) (.int .u8 (r' : Int)) (by decide) (dpart _ _ w (by kernel_rfl) rfl) (dpart _ _ w (by kernel_rfl) rfl) (eq_intsD 9997 5 .u8 _ _ w (by kernel_rfl)) ?_
  refine eqF_any (.int .u32 (s : Int)) (.int .u32 (s' : Int)) (by decide) (dpart _ _ w (by kernel_rfl) rfl) (dpart _ _ w (by kernel_rfl) rfl) (eq_intsD 9997 28 .u32 _ _ w (by kernel_rfl)) ?_
  exact eqF_nil
theorem eq42 (a b : Ky) (w : World) : (Op.equalIn 10000 42 (.agg a.arr) (.agg b.arr)).run Tryd.prog w = .ok (Ky.eqB a b) w := by
  have hp : Tryd.prog.stoodInHeld 42 = false := by kernel_rfl
  have hE : Ky.eqB a b = (((a.c : Int) == (b.c : Int)) && ((a.r == b.r && a.s == b.s) && true)) := by
    unfold Ky.eqB
    rw [Bool.eq_iff_iff]
    simp only [Bool.and_eq_true, beq_iff_eq, Int.natCast_inj, and_true, and_assoc]
  rw [hE, show (10000 : Nat) = 9999 + 1 from rfl, run_equalIn_agg w 9999 42 _ _ und42 hp]
  simp only [Program.fieldsOf, Tryd.underlying42]
  clear hp hE
  refine eqF_any (.int .u16 (a.c : Int)) (.int .u16 (b.c : Int)) (by decide) (kpart _ _ _ w (by kernel_rfl) rfl) (kpart _ _ _ w (by kernel_rfl) rfl) (eq_intsD 9998 27 .u16 _ _ w (by kernel_rfl)) ?_
  refine eqF_any _ _ (by decide) (kpart_dot a w) (kpart_dot b w) (eq_dots a.r a.s b.r b.s w) ?_
  exact eqF_nil
theorem eq32 (a b : Ky) (w : World) : (Op.equalIn 10000 32 (.agg a.arr) (.agg b.arr)).run Tryd.prog w = .ok (Ky.eqB a b) w := by
  have hp : Tryd.prog.stoodInHeld 32 = false := by kernel_rfl
  have hE : Ky.eqB a b = (((a.c : Int) == (b.c : Int)) && ((a.r == b.r && a.s == b.s) && true)) := by
    unfold Ky.eqB
    rw [Bool.eq_iff_iff]
    simp only [Bool.and_eq_true, beq_iff_eq, Int.natCast_inj, and_true, and_assoc]
  rw [hE, show (10000 : Nat) = 9999 + 1 from rfl, run_equalIn_agg w 9999 32 _ _ und32 hp]
  simp only [Program.fieldsOf, Tryd.underlying32]
  clear hp hE
  refine eqF_any (.int .u16 (a.c : Int)) (.int .u16 (b.c : Int)) (by decide) (kpart _ _ _ w (by kernel_rfl) rfl) (kpart _ _ _ w (by kernel_rfl) rfl) (eq_intsD 9998 27 .u16 _ _ w (by kernel_rfl)) ?_
  refine eqF_any _ _ (by decide) (kpart_dot a w) (kpart_dot b w) (eq_dots a.r a.s b.r b.s w) ?_
  exact eqF_nil
theorem eq67 (a b : Lo) (w : World) : (Op.equalIn 10000 67 (.agg a.arr) (.agg b.arr)).run Tryd.prog w = .ok (Lo.eqB a b) w := by
  have hp : Tryd.prog.stoodInHeld 67 = false := by kernel_rfl
  have hE : Lo.eqB a b = (((a.g : Int) == (b.g : Int)) && (((a.t : Int) == (b.t : Int)) && true)) := by
    unfold Lo.eqB
    rw [Bool.eq_iff_iff]
    simp only [Bool.and_eq_true, beq_iff_eq, Int.natCast_inj, and_true]
  rw [hE, show (10000 : Nat) = 9999 + 1 from rfl, run_equalIn_agg w 9999 67 _ _ und67 hp]
  simp only [Program.fieldsOf, Tryd.underlying67]
  clear hp hE
  refine eqF_any (.int .u32 (a.g : Int)) (.int .u32 (b.g : Int)) (by decide) (dpart _ _ w (by kernel_rfl) rfl) (dpart _ _ w (by kernel_rfl) rfl) (eq_intsD 9998 28 .u32 _ _ w (by kernel_rfl)) ?_
  refine eqF_any (.int .u32 (a.t : Int)) (.int .u32 (b.t : Int)) (by decide) (dpart _ _ w (by kernel_rfl) rfl) (dpart _ _ w (by kernel_rfl) rfl) (eq_intsD 9998 28 .u32 _ _ w (by kernel_rfl)) ?_
  exact eqF_nil
theorem exec_eql42 {ev : Operand → Value} {o : Oper} {w : World} {x y : Operand} {t : TypeId} {a b : Ky} {r : Bool} (ho : o.op = .binOp .eql 42 x y t) (hx : ev x = .agg a.arr) (hy : ev y = .agg b.arr) (hr : Ky.eqB a b = r) : (execOp ev o).run Tryd.prog w = .ok (.value (.bool r)) w := by
  subst hr
  have hq : (binOp .eql 42 (.agg a.arr) (.agg b.arr)).run Tryd.prog w = .ok (.bool (Ky.eqB a b)) w := by
    rw [run_eql_struct, eq42]; rfl
  have hg : (eqGuard .eql 42 x y (.agg a.arr) (.agg b.arr)).run Tryd.prog w = .ok () w := run_eqGuard_agg w .eql 42 x y _ _ (by kernel_rfl)
  unfold execOp
  simp only [ho, hx, hy, Sem.run_bind, hg, hq, Result.andThen_ok]
  rfl
theorem exec_neq42 {ev : Operand → Value} {o : Oper} {w : World} {x y : Operand} {t : TypeId} {a b : Ky} {r : Bool} (ho : o.op = .binOp .neq 42 x y t) (hx : ev x = .agg a.arr) (hy : ev y = .agg b.arr) (hr : (!Ky.eqB a b) = r) : (execOp ev o).run Tryd.prog w = .ok (.value (.bool r)) w := by
  subst hr
  have hq : (binOp .neq 42 (.agg a.arr) (.agg b.arr)).run Tryd.prog w = .ok (.bool ((!Ky.eqB a b))) w := by
    rw [run_neq_struct, eq42]; rfl
  have hg : (eqGuard .neq 42 x y (.agg a.arr) (.agg b.arr)).run Tryd.prog w = .ok () w := run_eqGuard_agg w .neq 42 x y _ _ (by kernel_rfl)
  unfold execOp
  simp only [ho, hx, hy, Sem.run_bind, hg, hq, Result.andThen_ok]
  rfl
theorem exec_eql32 {ev : Operand → Value} {o : Oper} {w : World} {x y : Operand} {t : TypeId} {a b : Ky} {r : Bool} (ho : o.op = .binOp .eql 32 x y t) (hx : ev x = .agg a.arr) (hy : ev y = .agg b.arr) (hr : Ky.eqB a b = r) : (execOp ev o).run Tryd.prog w = .ok (.value (.bool r)) w := by
  subst hr
  have hq : (binOp .eql 32 (.agg a.arr) (.agg b.arr)).run Tryd.prog w = .ok (.bool (Ky.eqB a b)) w := by
    rw [run_eql_struct, eq32]; rfl
  have hg : (eqGuard .eql 32 x y (.agg a.arr) (.agg b.arr)).run Tryd.prog w = .ok () w := run_eqGuard_agg w .eql 32 x y _ _ (by kernel_rfl)
  unfold execOp
  simp only [ho, hx, hy, Sem.run_bind, hg, hq, Result.andThen_ok]
  rfl
theorem exec_neq32 {ev : Operand → Value} {o : Oper} {w : World} {x y : Operand} {t : TypeId} {a b : Ky} {r : Bool} (ho : o.op = .binOp .neq 32 x y t) (hx : ev x = .agg a.arr) (hy : ev y = .agg b.arr) (hr : (!Ky.eqB a b) = r) : (execOp ev o).run Tryd.prog w = .ok (.value (.bool r)) w := by
  subst hr
  have hq : (binOp .neq 32 (.agg a.arr) (.agg b.arr)).run Tryd.prog w = .ok (.bool ((!Ky.eqB a b))) w := by
    rw [run_neq_struct, eq32]; rfl
  have hg : (eqGuard .neq 32 x y (.agg a.arr) (.agg b.arr)).run Tryd.prog w = .ok () w := run_eqGuard_agg w .neq 32 x y _ _ (by kernel_rfl)
  unfold execOp
  simp only [ho, hx, hy, Sem.run_bind, hg, hq, Result.andThen_ok]
  rfl
theorem exec_neq67 {ev : Operand → Value} {o : Oper} {w : World} {x y : Operand} {t : TypeId} {a b : Lo} {r : Bool} (ho : o.op = .binOp .neq 67 x y t) (hx : ev x = .agg a.arr) (hy : ev y = .agg b.arr) (hr : (!Lo.eqB a b) = r) : (execOp ev o).run Tryd.prog w = .ok (.value (.bool r)) w := by
  subst hr
  have hq : (binOp .neq 67 (.agg a.arr) (.agg b.arr)).run Tryd.prog w = .ok (.bool ((!Lo.eqB a b))) w := by
    rw [run_neq_struct, eq67]; rfl
  have hg : (eqGuard .neq 67 x y (.agg a.arr) (.agg b.arr)).run Tryd.prog w = .ok () w := run_eqGuard_agg w .neq 67 x y _ _ (by kernel_rfl)
  unfold execOp
  simp only [ho, hx, hy, Sem.run_bind, hg, hq, Result.andThen_ok]
  rfl

end Go.Proofs.YtcgbkfnjohbglaaDoor
