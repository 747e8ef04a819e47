/- Amounts: a number and an operation, by value. Walks of with and qty of fold. -/
import Derived.Test.YtmibfbbkjejkmaaFf
namespace Go.Proofs.Ytmibfbbkjejkmaa
open Go.RowKit Fold

/-- A number below 2^32 and an operation. -/
structure Am where
  n : Nat
  o : O
  hn : n < 4294967296
def Am.cs (a : Am) : List Value := .int .u32 (a.n : Int) :: a.o.cs
abbrev Am.arr (a : Am) : Array Value := a.cs.toArray
def Am.zero : Am := ⟨0, O.zero, by omega⟩
theorem Am.cs_len (a : Am) : a.cs.length = 24 := by simp [Am.cs, a.o.cs_len]
theorem Am.arr_size (a : Am) : a.arr.size = 24 := by simp [a.cs_len]
theorem Am.arr_one (a : Am) : a.arr.all (·.oneCell') = true := by
  refine all_oneCell_toArray fun u hu => ?_
  rcases List.mem_cons.1 hu with rfl | h
  · rfl
  · exact one_cs a.o u (by simpa using h)
theorem size67 : (Try.prog.info? 67).map (·.size) = some 24 := by kernel_rfl
theorem und67 : Try.prog.underlying 67 = some (.struct (Try.prog.fieldsOf 67)) := by kernel_rfl
theorem zero_aarr : Am.zero.arr = #[.int .u32 0, .int .u8 0, .int .u32 0, .int .u8 0, .int .u16 0, .int .u16 0, .int .u16 0, .int .u32 0, .int .u32 0, .int .u32 0, .int .u32 0, .int .u32 0, .int .u32 0, .int .u32 0, .int .u32 0, .int .u32 0, .int .u32 0, .int .u32 0, .int .u32 0, .int .u32 0, .int .u32 0, .int .u32 0, .int .u32 0, .int .u32 0] := by kernel_rfl
theorem info67 : (Try.prog.info? 67).map (fun i => (i.zero, i.size)) = some (some (.agg Am.zero.arr), 24) := by rw [zero_aarr]; kernel_rfl
theorem zero67 (w : World) : (zeroValue 67).run Try.prog w = .ok (.agg Am.zero.arr) w := (zero_of_info info67).1 w
theorem box67 (a : Am) (w : World) : (Instr.box 67 (.agg a.arr)).run Try.prog w = .ok (.pointer (some ⟨w.heap.size, 0, none⟩)) (w.alloc (.cells a.arr 67)) := by
  simp [Instr.box, newVar, newRow, Value.cells, go_sem]
theorem alloc67 (w : World) : (Instr.alloc 67 true (.tuple #[])).run Try.prog w = .ok (.pointer (some ⟨w.heap.size, 0, none⟩)) (w.alloc (.cells Am.zero.arr 67)) := by
  simp only [Instr.alloc, Sem.run_bind, (zero_of_info info67).1, Result.andThen_ok]
  simp [newVar, newRow, Value.cells, go_sem]
theorem load67 {w : World} {g : Nat} {a : Am} (h : Blk w g 67 a.arr) : (Instr.loadAt 67 (.pointer (some ⟨g, 0, none⟩))).run Try.prog w = .ok (.agg a.arr) w := by
  have hi : (Try.prog.info? 67).map (·.size) = some a.arr.size := by rw [a.arr_size]; exact size67
  simp only [Instr.loadAt, Instr.sureAddr, Sem.run_bind, Sem.run_pure, Result.andThen]
  exact run_loadVar_row _ _ 67 67 a.arr (0, 0) _ h und67 rfl hi
theorem loadVar67 {w : World} {g : Nat} {a : Am} (h : Blk w g 67 a.arr) : (loadVar 67 ⟨g, 0, none⟩).run Try.prog w = .ok (.agg a.arr) w := by
  have hi : (Try.prog.info? 67).map (·.size) = some a.arr.size := by rw [a.arr_size]; exact size67
  exact run_loadVar_row _ _ 67 67 a.arr (0, 0) _ h und67 rfl hi
theorem store67 {w : World} {g : Nat} {a b : Am} (h : Blk w g 67 a.arr) : (Instr.storeAt 67 (.pointer (some ⟨g, 0, none⟩)) (.agg b.arr)).run Try.prog w = .ok () (w.setRow g b.arr) := by
  have hi : (Try.prog.info? 67).map (·.size) = some b.arr.size := by rw [b.arr_size]; exact size67
  simp only [Instr.storeAt, Instr.sureAddr, Sem.run_bind, Sem.run_pure, Result.andThen]
  exact run_storeVar_row _ _ 67 67 a.arr b.arr h hi (by rw [a.arr_size, b.arr_size]) b.arr_one
theorem ret67 {fn : Func} {t : Tmp} (h : fn.results = #[.cell t 67]) {tmps : Array Value} {w : World} {g : Nat} {a : Am} (hx : tmps.getD t undef = .pointer (some ⟨g, 0, none⟩)) (hb : Blk w g 67 a.arr) :
    (results fn tmps).run Try.prog w = .ok (.agg a.arr) w := by
  have hx' : tmps[t]?.getD undef = .pointer (some ⟨g, 0, none⟩) := by rw [← hx]; simp [Array.getD_eq_getD_getElem?]
  simp only [results, h]
  simp [hx', asAddr, loadVar67 hb]

section
variable {ev : Operand → Value} {q : Oper} {w : World}
theorem exec_load67 {x : Operand} {g : Nat} {a : Am} (ho : q.op = .load 67 x) (hx : ev x = .pointer (some ⟨g, 0, none⟩)) (h : Blk w g 67 a.arr) : (execOp ev q).run Try.prog w = .ok (.value (.agg a.arr)) w := exec_cell ho hx (load67 h)
theorem exec_alloc67z {z : Am} (hz : Am.zero = z) (ho : q.op = .alloc 67) : (execOp ev q).run Try.prog w = .ok (.value (.pointer (some ⟨w.heap.size, 0, none⟩))) (w.alloc (.cells z.arr 67)) := by
  subst hz
  unfold execOp
  simp only [ho, Sem.run_bind, alloc67, Result.andThen_ok]
  rfl
theorem exec_store67 {x y : Operand} {g : Nat} {a b : Am} (ho : q.op = .store 67 x y) (hx : ev x = .pointer (some ⟨g, 0, none⟩)) (hy : ev y = .agg b.arr) (h : Blk w g 67 a.arr) : (execOp ev q).run Try.prog w = .ok .skip (w.setRow g b.arr) := by
  unfold execOp
  simp only [ho, hx, hy, Sem.run_bind, store67 (b := b) h, Result.andThen_ok]
  rfl
/-- Its operation overwritten. -/
theorem exec_stSet {x y : Operand} {g : Nat} {a : Am} {p : O} (ho : q.op = .store 40 x y) (hx : ev x = .pointer (some ⟨g, 1, none⟩)) (hy : ev y = .agg p.arr) (h : Blk w g 67 a.arr) : (execOp ev q).run Try.prog w = .ok .skip (w.setCells g 1 p.cs) := by
  have hs := run_storeAt_mid (P := Try.prog) w g 1 40 p.arr (h.there (by rw [p.arr_size, a.arr_size]; omega)) (by rw [p.arr_size]; exact size40) p.arr_one
  unfold execOp
  simp only [ho, hx, hy, Sem.run_bind, hs, Result.andThen_ok]
  rfl
theorem wpList_stop67 {ops : Array Oper} {rest : List Oper} {o : Oper} {act : Act} {Q : Exit → Act → World → Prop} {W : World} {x : Operand} (_ho : o.op = .load 67 x) (k : Halt_ (wpList Try.prog ops Q (o :: rest) act W)) : wpList Try.prog ops Q (o :: rest) act W := k.out
end
theorem stSet_blk {w : World} {g : Nat} {a : Am} {p : O} (h : Blk w g 67 a.arr) : Blk (w.setCells g 1 p.cs) g 67 (⟨a.n, p, a.hn⟩ : Am).arr :=
  setCells_blk p.cs [.int .u32 (a.n : Int)] a.o.cs w (by rw [p.cs_len, a.o.cs_len]) h
theorem Am.range {w : World} {g : Nat} {a : Am} (h : Blk w g 67 a.arr) : w.rangeAt g 1 a.o.cs := fun j u hu => by
  rw [h.cell, Nat.add_comm]
  simpa [Am.cs] using hu
theorem ac0 {w : World} {g : Nat} {a : Am} (h : Blk w g 67 a.arr) : w.cell? ⟨g, 0, none⟩ = some (.int .u32 (a.n : Int)) := by rw [h.cell]; rfl
theorem ac3 {w : World} {g : Nat} {a : Am} (h : Blk w g 67 a.arr) : w.cell? ⟨g, 3, none⟩ = some (.int .u8 (a.o.k : Int)) := by rw [h.cell]; rfl
theorem ac6 {w : World} {g : Nat} {a : Am} (h : Blk w g 67 a.arr) : w.cell? ⟨g, 6, none⟩ = some (.int .u16 (a.o.q : Int)) := by rw [h.cell]; rfl

def Am.with (a : Am) (o : O) : Am := if o.k = 1 then ⟨(a.n + o.q) % 4294967296, a.o, Nat.mod_lt _ (by omega)⟩ else if a.o.k ≠ 2 ∨ O.lessB a.o o = true then ⟨a.n, o, a.hn⟩ else a
def Am.qty (a : Am) : Nat := (a.n + a.o.q) % 4294967296

/-- Two blocks and the answer's. -/
structure Wa (w W : World) (a z : Am) (o : O) : Prop where
  am : Blk W w.heap.size 67 a.arr
  op : Blk W (w.heap.size + 1) 40 o.arr
  ans : Blk W (w.heap.size + 1 + 1) 67 z.arr
  old : Below w.heap.size w W
theorem wa_new (w : World) (a z : Am) (o : O) : Wa w (((w.alloc (.cells a.arr 67)).alloc (.cells o.arr 40)).alloc (.cells z.arr 67)) a z o := by
  have h1 := Blk.new w 67 a.arr
  have h2 := Blk.new (w.alloc (.cells a.arr 67)) 40 o.arr
  have h3 := Blk.new ((w.alloc (.cells a.arr 67)).alloc (.cells o.arr 40)) 67 z.arr
  have b1 := below_one (w.alloc (.cells a.arr 67)) (.cells o.arr 40)
  have b2 := below_one ((w.alloc (.cells a.arr 67)).alloc (.cells o.arr 40)) (.cells z.arr 67)
  simp only [World.size_alloc] at h2 h3
  exact ⟨(h1.below b1).below b2, h2.below b2, h3, (below_two' _ _ _).trans (b2.mono (by simp; omega))⟩
theorem Wa.below {w W W' : World} {a z : Am} {o : O} (h : Wa w W a z o) (hb : Below W.heap.size W W') : Wa w W' a z o := ⟨h.am.below hb, h.op.below hb, h.ans.below hb, h.old.trans (hb.mono h.old.size)⟩
theorem Wa.keep {w W W' : World} {a b z : Am} {o : O} (h : Wa w W a z o) (k : Kept (fun i => i = w.heap.size) W W') (hb : Blk W' w.heap.size 67 b.arr) : Wa w W' b z o :=
  ⟨hb, h.op.kept k (by omega), h.ans.kept k (by omega), h.old.trans (k.below h.old.size (fun j e => by rw [e]; exact Nat.le_refl _))⟩

set_option maxRecDepth 100000 in
set_option maxHeartbeats 2000000 in
theorem with_any (a : Am) (o : O) (w : World) : Calls Try.prog 33 #[.agg a.arr, .agg o.arr] w (Says (.agg (a.with o).arr) w) := by
  obtain ⟨z, hz⟩ : ∃ z, Am.zero = z := ⟨_, rfl⟩
  have HZ := Lib.hid hz
  have hb1 := fun (a : Am) (w : World) => box67 a w
  have hb2 := fun (o : O) (w : World) => box40 o w
  have HT := Lib.hid (wa_new w a z o)
  have HD : Hid (a.with o = if o.k = 1 then ⟨(a.n + o.q) % 4294967296, a.o, Nat.mod_lt _ (by omega)⟩ else if a.o.k ≠ 2 ∨ O.lessB a.o o = true then ⟨a.n, o, a.hn⟩ else a) := Lib.hid rfl
  generalize a.with o = r at HD
  have hq := o.hq
  have hn := a.hn
  clear hz
  go_enter Try.func33, Try.ntmps33
  go_upto_region 1 with (refine wpList_run rfl (exec_alloc67z HZ.out rfl) ?_)
  clear hb1 hb2
  generalize ((w.alloc (.cells a.arr 67)).alloc (.cells o.arr 40)).alloc (.cells z.arr 67) = W at HT
  have c2 := oc2 HT.out.op
  by_cases h1 : o.k = 1
  · have q1 : ((o.k : Int) == 1) = true := by simp; omega
    have c0 := ac0 HT.out.am
    have f0 : W.frozen? ⟨w.heap.size, 0, none⟩ = false := HT.out.am.frozen 0
    have c5 := oc5 HT.out.op
    have HD2 : Hid (r = ⟨(a.n + o.q) % 4294967296, a.o, Nat.mod_lt _ (by omega)⟩) := Lib.hid (by rw [HD.out, if_pos h1])
    clear HD h1
    go_wp2_with (refine wpList_stop67 rfl ?_)
    have hks := Kept.setCell W ⟨w.heap.size, 0, none⟩ (.int .u32 (((a.n : Int) + (o.q : Int)) % 4294967296))
    have HW : Hid (Wa w (W.setCell ⟨w.heap.size, 0, none⟩ (.int .u32 (((a.n : Int) + (o.q : Int)) % 4294967296))) r z o) := Lib.hid (HT.out.keep hks (by
      have h := HT.out.am.set 0 (.int .u32 (((a.n : Int) + (o.q : Int)) % 4294967296))
      have e : a.arr.setIfInBounds 0 (.int .u32 (((a.n : Int) + (o.q : Int)) % 4294967296)) = r.arr := by
        rw [HD2.out]
        simp [Am.arr, Am.cs]
      rw [e] at h
      exact h))
    clear hks
    generalize W.setCell ⟨w.heap.size, 0, none⟩ (.int .u32 (((a.n : Int) + (o.q : Int)) % 4294967296)) = W2 at HW
    refine ⟨?_⟩
    refine wpList_run rfl (exec_load67 (a := r) rfl rfl HW.out.am) ?_
    refine wpList_void rfl rfl (exec_store67 (a := z) (b := r) rfl rfl rfl HW.out.ans) ?_
    have HR := Lib.hid (HW.out.ans.row (ds := r.arr))
    have HB : Hid (Below w.heap.size w (W2.setRow (w.heap.size + 1 + 1) r.arr)) := Lib.hid (HW.out.old.trans ((Kept.setRow W2 (w.heap.size + 1 + 1) r.arr).below HW.out.old.size (fun j e => by omega)))
    go_wp2_with fail
    exact bodyPost_ret (v := .agg r.arr) (ret67 rfl rfl HR.out) rfl ⟨rfl, HB.out⟩
  · have q1 : ((o.k : Int) == 1) = false := by simp; omega
    have c3 := ac3 HT.out.am
    have HD2 : Hid (r = if a.o.k ≠ 2 ∨ O.lessB a.o o = true then ⟨a.n, o, a.hn⟩ else a) := Lib.hid (by rw [HD.out, if_neg h1])
    clear HD h1
    by_cases h2 : a.o.k = 2
    · have q2 : ((a.o.k : Int) != 2) = false := by simp; omega
      have HR2 := Lib.hid (Am.range HT.out.am)
      have HD3 : Hid (r = if O.lessB a.o o = true then ⟨a.n, o, a.hn⟩ else a) := Lib.hid (by rw [HD2.out]; simp [h2])
      clear h2 HD2
      go_wp2_with (first | (refine wpList_runW (exec_ldO (p := a.o) rfl rfl HR2.out) (by kernel_rfl) ?_) | (refine wpList_runW (exec_load40 (p := o) rfl rfl HT.out.op) (by kernel_rfl) ?_))
      refine (less_any a.o o _).mono ?_
      rintro e W3 ⟨rfl, hb3⟩
      have HT3 := Lib.hid (HT.out.below hb3)
      clear HT hb3 c2 c3 HR2
      cases hl : O.lessB a.o o
      · have HW : Hid (Wa w W3 r z o) := Lib.hid (by rw [HD3.out, hl]; exact HT3.out)
        go_wp2_with (refine wpList_stop67 rfl ?_)
        refine ⟨?_⟩
        refine wpList_run rfl (exec_load67 (a := r) rfl rfl HW.out.am) ?_
        refine wpList_void rfl rfl (exec_store67 (a := z) (b := r) rfl rfl rfl HW.out.ans) ?_
        have HR := Lib.hid (HW.out.ans.row (ds := r.arr))
        have HB : Hid (Below w.heap.size w (W3.setRow (w.heap.size + 1 + 1) r.arr)) := Lib.hid (HW.out.old.trans ((Kept.setRow W3 (w.heap.size + 1 + 1) r.arr).below HW.out.old.size (fun j e => by omega)))
        go_wp2_with fail
        exact bodyPost_ret (v := .agg r.arr) (ret67 rfl rfl HR.out) rfl ⟨rfl, HB.out⟩
      · have HD4 : Hid (r = ⟨a.n, o, a.hn⟩) := Lib.hid (by rw [HD3.out, hl]; rfl)
        clear hl
        go_wp2_with (first | (refine wpList_run rfl (exec_load40 (p := o) rfl rfl HT3.out.op) ?_) | (refine wpList_stop67 rfl ?_) | (refine wpList_stop40 rfl ?_))
        refine ⟨?_⟩
        refine wpList_void rfl rfl (exec_stSet (a := a) (p := o) rfl rfl rfl HT3.out.am) ?_
        have HW : Hid (Wa w (W3.setCells w.heap.size 1 o.cs) r z o) := Lib.hid (HT3.out.keep (Kept.setCells o.cs 1 W3) (by rw [HD4.out]; exact stSet_blk HT3.out.am))
        generalize W3.setCells w.heap.size 1 o.cs = W5 at HW
        go_wp2_with (refine wpList_stop67 rfl ?_)
        refine ⟨?_⟩
        refine wpList_run rfl (exec_load67 (a := r) rfl rfl HW.out.am) ?_
        refine wpList_void rfl rfl (exec_store67 (a := z) (b := r) rfl rfl rfl HW.out.ans) ?_
        have HR := Lib.hid (HW.out.ans.row (ds := r.arr))
        have HB : Hid (Below w.heap.size w (W5.setRow (w.heap.size + 1 + 1) r.arr)) := Lib.hid (HW.out.old.trans ((Kept.setRow W5 (w.heap.size + 1 + 1) r.arr).below HW.out.old.size (fun j e => by omega)))
        go_wp2_with fail
        exact bodyPost_ret (v := .agg r.arr) (ret67 rfl rfl HR.out) rfl ⟨rfl, HB.out⟩
    · have q2 : ((a.o.k : Int) != 2) = true := by simp; omega
      have HD4 : Hid (r = ⟨a.n, o, a.hn⟩) := Lib.hid (by rw [HD2.out, if_pos (.inl h2)])
      have HT3 := HT
      clear HD2 h2 HT
      go_wp2_with (first | (refine wpList_run rfl (exec_load40 (p := o) rfl rfl HT3.out.op) ?_) | (refine wpList_stop67 rfl ?_) | (refine wpList_stop40 rfl ?_))
      refine ⟨?_⟩
      refine wpList_void rfl rfl (exec_stSet (a := a) (p := o) rfl rfl rfl HT3.out.am) ?_
      have HW : Hid (Wa w (W.setCells w.heap.size 1 o.cs) r z o) := Lib.hid (HT3.out.keep (Kept.setCells o.cs 1 W) (by rw [HD4.out]; exact stSet_blk HT3.out.am))
      generalize W.setCells w.heap.size 1 o.cs = W5 at HW
      go_wp2_with (refine wpList_stop67 rfl ?_)
      refine ⟨?_⟩
      refine wpList_run rfl (exec_load67 (a := r) rfl rfl HW.out.am) ?_
      refine wpList_void rfl rfl (exec_store67 (a := z) (b := r) rfl rfl rfl HW.out.ans) ?_
      have HR := Lib.hid (HW.out.ans.row (ds := r.arr))
      have HB : Hid (Below w.heap.size w (W5.setRow (w.heap.size + 1 + 1) r.arr)) := Lib.hid (HW.out.old.trans ((Kept.setRow W5 (w.heap.size + 1 + 1) r.arr).below HW.out.old.size (fun j e => by omega)))
      go_wp2_with fail
      exact bodyPost_ret (v := .agg r.arr) (ret67 rfl rfl HR.out) rfl ⟨rfl, HB.out⟩

theorem qty_any (a : Am) (w : World) : Calls Try.prog 36 #[.agg a.arr] w (Says (.int .u32 (a.qty : Int)) w) := by
  have hb1 := fun (a : Am) (w : World) => box67 a w
  have hbx := Blk.new w 67 a.arr
  have c0 := ac0 hbx
  have c6 := ac6 hbx
  have hq := a.o.hq
  have hn := a.hn
  have HQ : Hid (((a.qty : Nat) : Int) = ((a.n : Int) + (a.o.q : Int)) % 4294967296) := Lib.hid (by unfold Am.qty; omega)
  clear hbx
  generalize a.qty = y at HQ
  go_enter Try.func36, Try.ntmps36
  go_wp2_with fail
  go_ret
  exact ⟨ret_int HQ.out.symm, below_one _ _⟩

end Go.Proofs.Ytmibfbbkjejkmaa
