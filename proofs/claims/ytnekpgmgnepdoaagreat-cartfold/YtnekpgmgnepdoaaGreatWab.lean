import Derived.Laws.Tables
import Derived.Maps.RangeWalk
import Derived.Maps.Ext
import Derived.Maps.OwnOps
import Derived.Maps.OwnSet
import Derived.DeepKeys4
import Derived.Test.YtnekpgmgnepdoaaGreatWaa
section
namespace Go.Proofs.YtnekpgmgnepdoaaGreat
open Go.RowKit
section
variable {ops : Array Oper} {Q : Exit → Act → World → Prop} {S : World → Prop} {fuel : Nat} {listed : Array Bool} {a : Act} {w : World}
theorem held_callP (i : Nat) (d : Tmp) {oi : Oper} (f : FuncId) (args : Array Value) {R : Ending → World → Prop} (hd : oi.dst = some d) (hr : Region.ready .any ops listed = [i]) (hi : ops[i]? = some oi) (hw : Region.wanted oi (yielded ops a.tmps) = true)
  (hrun : (execOp a.eval oi).run Tryz.prog w = .ok (.enter f args) w) (hc : Calls Tryz.prog f args w R)
  (h : ∀ e w', R e w' → ∃ v, e = .returned v ∧ S w' ∧ (S w' → wpAnyH Tryz.prog .any ops Q S fuel (listed.setIfInBounds i true) (a.put (some d) v) w')) : wpAnyH Tryz.prog .any ops Q S (fuel + 1) listed a w := by
 refine wpAnyH_ready (rs := [i]) hr (by simp) (AllReadyH.cons hi (fun K hK => ?_) AllReadyH.nil)
 rw [if_pos hw]
 unfold Oper.wp
 rw [hrun, Oper.upon_enter]
 refine hc.mono fun e w' hh => ?_
 obtain ⟨v, rfl, hS, hk⟩ := h e w' hh
 exact hK.out _ _ hS (fun hS' => by rw [hd]; exact hk hS')
theorem held_pure (i : Nat) (d : Tmp) {oi : Oper} (f : FuncId) (args : Array Value) (v : Value) (hd : oi.dst = some d) (hr : Region.ready .any ops listed = [i]) (hi : ops[i]? = some oi) (hw : Region.wanted oi (yielded ops a.tmps) = true)
  (hrun : (execOp a.eval oi).run Tryz.prog w = .ok (.enter f args) w) (hc : Calls Tryz.prog f args w fun e w' => e = .returned v ∧ w = w') (hS : S w)
  (h : wpAnyH Tryz.prog .any ops Q S fuel (listed.setIfInBounds i true) (a.put (some d) v) w) : wpAnyH Tryz.prog .any ops Q S (fuel + 1) listed a w :=
 held_callP i d f args hd hr hi hw hrun hc fun _ _ ⟨he, hw'⟩ => ⟨v, he, hw' ▸ hS, fun _ => hw' ▸ h⟩
theorem held_exec (i : Nat) (d : Tmp) {oi : Oper} (v : Value) {w2 : World} (hd : oi.dst = some d) (hi : ops[i]? = some oi) (hr : Region.ready .any ops listed = [i]) (hw : Region.wanted oi (yielded ops a.tmps) = true)
  (hy : (execOp a.eval oi).run Tryz.prog w = .ok (.value v) w2) (hS : S w2)
  (h : wpAnyH Tryz.prog .any ops Q S fuel (listed.setIfInBounds i true) (a.put (some d) v) w2) : wpAnyH Tryz.prog .any ops Q S (fuel + 1) listed a w := by
 refine wpAnyH_ready (rs := [i]) hr (by simp) (AllReadyH.cons hi (fun K hK => ?_) AllReadyH.nil)
 rw [if_pos hw]
 unfold Oper.wp
 rw [hy]
 exact hK.out _ _ hS (fun _ => by rw [hd]; exact h)
theorem held_void (i : Nat) {oi : Oper} {w2 : World} (hd : oi.dst = none) (hi : ops[i]? = some oi) (hr : Region.ready .any ops listed = [i]) (hw : Region.wanted oi (yielded ops a.tmps) = true)
  (hy : (execOp a.eval oi).run Tryz.prog w = .ok .skip w2) (hS : S w2)
  (h : wpAnyH Tryz.prog .any ops Q S fuel (listed.setIfInBounds i true) a w2) : wpAnyH Tryz.prog .any ops Q S (fuel + 1) listed a w := by
 refine wpAnyH_ready (rs := [i]) hr (by simp) (AllReadyH.cons hi (fun K hK => ?_) AllReadyH.nil)
 rw [if_pos hw]
 unfold Oper.wp
 rw [hy]
 exact hK.out _ _ hS (fun _ => by rw [hd]; exact h)
end
section
variable {ops : Array Oper} {Q : Exit → Act → World → Prop} {S : World → Prop} {fuel : Nat} {listed : Array Bool} {a : Act} {w : World} {rs : List Nat}
theorem br_callP (i : Nat) (d : Tmp) {oi : Oper} (f : FuncId) (args : Array Value) {R : Ending → World → Prop} (hd : oi.dst = some d) (hi : ops[i]? = some oi) (hw : Region.wanted oi (yielded ops a.tmps) = true)
  (hrun : (execOp a.eval oi).run Tryz.prog w = .ok (.enter f args) w) (hc : Calls Tryz.prog f args w R)
  (h : ∀ e w', R e w' → ∃ v, e = .returned v ∧ S w' ∧ (S w' → wpAnyH Tryz.prog .any ops Q S fuel (listed.setIfInBounds i true) (a.put (some d) v) w')) (hs : AllReadyH Tryz.prog .any ops Q S fuel listed a w rs) : AllReadyH Tryz.prog .any ops Q S fuel listed a w (i :: rs) := by
 refine AllReadyH.cons hi (fun K hK => ?_) hs
 rw [if_pos hw]
 unfold Oper.wp
 rw [hrun, Oper.upon_enter]
 refine hc.mono fun e w' hh => ?_
 obtain ⟨v, rfl, hS, hk⟩ := h e w' hh
 exact hK.out _ _ hS (fun hS' => by rw [hd]; exact hk hS')
theorem br_exec (i : Nat) (d : Tmp) {oi : Oper} (v : Value) {w2 : World} (hd : oi.dst = some d) (hi : ops[i]? = some oi) (hw : Region.wanted oi (yielded ops a.tmps) = true)
  (hy : (execOp a.eval oi).run Tryz.prog w = .ok (.value v) w2) (hS : S w2)
  (h : wpAnyH Tryz.prog .any ops Q S fuel (listed.setIfInBounds i true) (a.put (some d) v) w2) (hs : AllReadyH Tryz.prog .any ops Q S fuel listed a w rs) : AllReadyH Tryz.prog .any ops Q S fuel listed a w (i :: rs) := by
 refine AllReadyH.cons hi (fun K hK => ?_) hs
 rw [if_pos hw]
 unfold Oper.wp
 rw [hy]
 exact hK.out _ _ hS (fun _ => by rw [hd]; exact h)
end
section
variable {ops : Array Oper} {rest : List Oper} {o : Oper} {act : Act} {Q : Exit → Act → World → Prop} {W W2 : World}
theorem wpList_run {v : Value} (hgd : o.guard = none) (hrun : (execOp act.eval o).run Tryz.prog W = .ok (.value v) W2)
  (k : wpList Tryz.prog ops Q rest (act.put o.dst v) W2) : wpList Tryz.prog ops Q (o :: rest) act W :=
 wpList_plain hgd fun _ hK => by
  unfold Oper.wp
  rw [hrun]
  exact hK _ _ k
theorem wpList_void (hgd : o.guard = none) (hd : o.dst = none) (hrun : (execOp act.eval o).run Tryz.prog W = .ok .skip W2)
  (k : wpList Tryz.prog ops Q rest act W2) : wpList Tryz.prog ops Q (o :: rest) act W :=
 wpList_plain hgd fun _ hK => by
  unfold Oper.wp
  rw [hrun]
  refine hK _ _ ?_
  rw [hd]
  exact k
end
theorem exec_cell {ev : Operand → Value} {o : Oper} {x : Operand} {t : TypeId} {p : Addr} {v : Value} {w : World} (ho : o.op = .load t x) (hx : ev x = .pointer (some p)) (h : (Instr.loadAt t (.pointer (some p))).run Tryz.prog w = .ok v w) : (execOp ev o).run Tryz.prog w = .ok (.value v) w := by
 unfold execOp
 simp only [ho, hx, Sem.run_bind, h, Result.andThen_ok]
 rfl
theorem load_cell {w : World} {p : Addr} {v : Value} {t : TypeId} (hagg : (isAgg t).run Tryz.prog w = .ok false w) (h : w.cell? p = some v) : (Instr.loadAt t (.pointer (some p))).run Tryz.prog w = .ok v w := by
 simp [Instr.loadAt, Instr.sureAddr, loadVar, hagg, h, Sem.run_bind]
end Go.Proofs.YtnekpgmgnepdoaaGreat
end
section
namespace Go.Proofs.YtnekpgmgnepdoaaGreat
open Go.RowKit
section
variable {ops : Array Oper} {rest : List Oper} {o : Oper} {act : Act} {Q : Exit → Act → World → Prop} {W : World}
theorem wpList_alloc24 {z : V} (hz : V.zero = z) (hgd : o.guard = none) (ho : o.op = .alloc 24)
  (k : wpList Tryz.prog ops Q rest (act.put o.dst (.pointer (some ⟨W.heap.size, 0, none⟩))) (W.alloc (.cells z.arr 24))) : wpList Tryz.prog ops Q (o :: rest) act W :=
 wpList_plain hgd fun K hK => by
  subst hz
  unfold Oper.wp execOp
  simp only [ho, Sem.run_bind, alloc24, Result.andThen_ok]
  exact hK _ _ k
end
structure Halt_ (p : Prop) : Prop where
 out : p
theorem wpList_stop {ops : Array Oper} {rest : List Oper} {o : Oper} {act : Act} {Q : Exit → Act → World → Prop} {W : World} {x y : Operand} (_ho : o.op = .store 24 x y) (k : Halt_ (wpList Tryz.prog ops Q (o :: rest) act W)) : wpList Tryz.prog ops Q (o :: rest) act W := k.out
theorem laid_blk (w : World) (z v : V) : Blk ((w.alloc (.cells z.arr 24)).setRow w.heap.size v.arr) w.heap.size 24 v.arr := (Blk.new w 24 z.arr).row
theorem laid_old (w : World) (z v : V) : Below w.heap.size w ((w.alloc (.cells z.arr 24)).setRow w.heap.size v.arr) :=
 (below_one w _).trans ((Kept.setRow (w.alloc (.cells z.arr 24)) w.heap.size v.arr).below (by simp) (fun k hk => by omega))
end Go.Proofs.YtnekpgmgnepdoaaGreat
end
section
namespace Go.Proofs.YtnekpgmgnepdoaaGreat
open Go.RowKit
def O.hd (o : O) : List Value := [.int .u8 (o.r : Int), .int .u32 (o.s : Int), .int .u8 (o.k : Int), .int .u16 (o.c : Int), .int .u16 (o.i : Int), .int .u16 (o.q : Int), .int .u32 (o.t : Int)]
def O.cs (o : O) : List Value := o.hd ++ o.v.cs
abbrev O.arr (o : O) : Array Value := o.cs.toArray
theorem O.cs_len (o : O) : o.cs.length = 23 := by simp [O.cs, O.hd, o.v.cs_len]
theorem O.arr_size (o : O) : o.arr.size = 23 := by simp [o.cs_len]
theorem O.arr_one (o : O) : o.arr.all (·.oneCell') = true := by
 refine all_oneCell_toArray fun u hu => ?_
 rcases List.mem_append.1 hu with h | h
 ·simp only [O.hd, List.mem_cons, List.not_mem_nil, or_false] at h
  rcases h with rfl | rfl | rfl | rfl | rfl | rfl | rfl <;> rfl
 ·obtain ⟨n, _, rfl⟩ := List.mem_map.1 h
  rfl
theorem O.at7 (o : O) {j : Nat} (hj : j < 16) : o.cs[7 + j]? = some (.int .u32 (o.v.at_ j : Int)) := by
 unfold O.cs
 rw [List.getElem?_append_right (by simp [O.hd])]
 simp only [O.hd, List.length_cons, List.length_nil]
 rw [show 7 + j - (0 + 1 + 1 + 1 + 1 + 1 + 1 + 1) = j by omega]
 exact o.v.cs_at hj
theorem oc0 {W : World} {g : Nat} {o : O} (h : Blk W g 33 o.arr) : W.cell? ⟨g, 0, none⟩ = some (.int .u8 (o.r : Int)) := by rw [h.cell]; rfl
theorem oc1 {W : World} {g : Nat} {o : O} (h : Blk W g 33 o.arr) : W.cell? ⟨g, 1, none⟩ = some (.int .u32 (o.s : Int)) := by rw [h.cell]; rfl
theorem oc2 {W : World} {g : Nat} {o : O} (h : Blk W g 33 o.arr) : W.cell? ⟨g, 2, none⟩ = some (.int .u8 (o.k : Int)) := by rw [h.cell]; rfl
theorem oc3 {W : World} {g : Nat} {o : O} (h : Blk W g 33 o.arr) : W.cell? ⟨g, 3, none⟩ = some (.int .u16 (o.c : Int)) := by rw [h.cell]; rfl
theorem oc4 {W : World} {g : Nat} {o : O} (h : Blk W g 33 o.arr) : W.cell? ⟨g, 4, none⟩ = some (.int .u16 (o.i : Int)) := by rw [h.cell]; rfl
theorem oc5 {W : World} {g : Nat} {o : O} (h : Blk W g 33 o.arr) : W.cell? ⟨g, 5, none⟩ = some (.int .u16 (o.q : Int)) := by rw [h.cell]; rfl
theorem oc6 {W : World} {g : Nat} {o : O} (h : Blk W g 33 o.arr) : W.cell? ⟨g, 6, none⟩ = some (.int .u32 (o.t : Int)) := by rw [h.cell]; rfl
theorem oc7 {W : World} {g : Nat} {o : O} (h : Blk W g 33 o.arr) {j : Nat} (hj : j < 16) : W.cell? ⟨g, 7 + j, none⟩ = some (.int .u32 (o.v.at_ j : Int)) := by
 rw [h.cell, ← o.at7 hj]; simp
theorem size33 : (Tryz.prog.info? 33).map (·.size) = some 23 := by kernel_rfl
theorem sixteen (v : V) : ∃ a b c d e f g h i j k l m n p q : Nat, v.1 = [a, b, c, d, e, f, g, h, i, j, k, l, m, n, p, q] := by
 obtain ⟨l, hl, _⟩ := v
 match l, hl with
 | [a, b, c, d, e, f, g, h, i, j, k, l, m, n, p, q], _ => exact ⟨a, b, c, d, e, f, g, h, i, j, k, l, m, n, p, q, rfl⟩
theorem box33 (o : O) (w : World) : (Instr.box 33 (.agg o.arr)).run Tryz.prog w = .ok (.pointer (some ⟨w.heap.size, 0, none⟩)) (w.alloc (.cells o.arr 33)) := by
 simp [Instr.box, newVar, newRow, Value.cells, go_sem]
theorem zero_oarr : O.zero.arr = #[.int .u8 0, .int .u32 0, .int .u8 0, .int .u16 0, .int .u16 0, .int .u16 0, .int .u32 0, .int .u32 0, .int .u32 0, .int .u32 0, .int .u32 0, .int .u32 0, .int .u32 0, .int .u32 0, .int .u32 0, .int .u32 0, .int .u32 0, .int .u32 0, .int .u32 0, .int .u32 0, .int .u32 0, .int .u32 0, .int .u32 0] := by kernel_rfl
theorem info33 : (Tryz.prog.info? 33).map (fun i => (i.zero, i.size)) = some (some (.agg O.zero.arr), 23) := by rw [zero_oarr]; kernel_rfl
theorem alloc33 (w : World) : (Instr.alloc 33 true (.tuple #[])).run Tryz.prog w = .ok (.pointer (some ⟨w.heap.size, 0, none⟩)) (w.alloc (.cells O.zero.arr 33)) := by
 simp only [Instr.alloc, Sem.run_bind, (zero_of_info info33).1, Result.andThen_ok]
 simp [newVar, newRow, Value.cells, go_sem]
theorem load33 {w : World} {g : Nat} {o : O} (h : Blk w g 33 o.arr) : (Instr.loadAt 33 (.pointer (some ⟨g, 0, none⟩))).run Tryz.prog w = .ok (.agg o.arr) w := by
 have hi : (Tryz.prog.info? 33).map (·.size) = some o.arr.size := by rw [o.arr_size]; exact size33
 simp only [Instr.loadAt, Instr.sureAddr, Sem.run_bind, Sem.run_pure, Result.andThen]
 exact run_loadVar_row _ _ 33 33 o.arr (0, 0) _ h Tryz.underlying33 rfl hi
theorem loadVar33 {w : World} {g : Nat} {o : O} (h : Blk w g 33 o.arr) : (loadVar 33 ⟨g, 0, none⟩).run Tryz.prog w = .ok (.agg o.arr) w := by
 have hi : (Tryz.prog.info? 33).map (·.size) = some o.arr.size := by rw [o.arr_size]; exact size33
 exact run_loadVar_row _ _ 33 33 o.arr (0, 0) _ h Tryz.underlying33 rfl hi
theorem store33 {w : World} {g : Nat} {o u : O} (h : Blk w g 33 o.arr) : (Instr.storeAt 33 (.pointer (some ⟨g, 0, none⟩)) (.agg u.arr)).run Tryz.prog w = .ok () (w.setRow g u.arr) := by
 have hi : (Tryz.prog.info? 33).map (·.size) = some u.arr.size := by rw [u.arr_size]; exact size33
 simp only [Instr.storeAt, Instr.sureAddr, Sem.run_bind, Sem.run_pure, Result.andThen]
 exact run_storeVar_row _ _ 33 33 o.arr u.arr h hi (by rw [o.arr_size, u.arr_size]) u.arr_one
theorem load_ctx {w : World} {g : Nat} {o : O} (h : Blk w g 33 o.arr) : (Instr.loadAt 24 (.pointer (some ⟨g, 7, none⟩))).run Tryz.prog w = .ok (.agg o.v.arr) w := by
 have hl := run_loadVar_mid (P := Tryz.prog) w g 7 24 o.v.cs _ (by
  intro j u hu
  have hj : j < 16 := by rw [← o.v.cs_len]; exact (List.getElem?_eq_some_iff.1 hu).1
  rw [oc7 h hj, ← o.v.cs_at hj, hu]) und24 rfl (by rw [o.v.cs_len]; exact size24)
 simp only [Instr.loadAt, Instr.sureAddr, Sem.run_bind, Sem.run_pure, Result.andThen_ok, hl]
theorem load_dot {w : World} {g : Nat} {o : O} (h : Blk w g 33 o.arr) : (Instr.loadAt 30 (.pointer (some ⟨g, 0, none⟩))).run Tryz.prog w = .ok (dotV o.r o.s) w := by
 have hl := run_loadVar_mid (P := Tryz.prog) w g 0 30 [.int .u8 (o.r : Int), .int .u32 (o.s : Int)] _ (by
  intro j u hu
  match j, hu with
  | 0, hu => simpa using (oc0 h).trans (by simpa using hu)
  | 1, hu => simpa using (oc1 h).trans (by simpa using hu)) Tryz.underlying30 rfl (by kernel_rfl)
 simp only [Instr.loadAt, Instr.sureAddr, Sem.run_bind, Sem.run_pure, Result.andThen_ok, hl]
section
variable {ev : Operand → Value} {o : Oper} {w : World}
theorem exec_load33 {x : Operand} {g : Nat} {p : O} (ho : o.op = .load 33 x) (hx : ev x = .pointer (some ⟨g, 0, none⟩)) (h : Blk w g 33 p.arr) : (execOp ev o).run Tryz.prog w = .ok (.value (.agg p.arr)) w := exec_cell ho hx (load33 h)
theorem exec_ctx {x : Operand} {g : Nat} {p : O} (ho : o.op = .load 24 x) (hx : ev x = .pointer (some ⟨g, 7, none⟩)) (h : Blk w g 33 p.arr) : (execOp ev o).run Tryz.prog w = .ok (.value (.agg p.v.arr)) w := exec_cell ho hx (load_ctx h)
theorem exec_dot {x : Operand} {g : Nat} {p : O} (ho : o.op = .load 30 x) (hx : ev x = .pointer (some ⟨g, 0, none⟩)) (h : Blk w g 33 p.arr) : (execOp ev o).run Tryz.prog w = .ok (.value (dotV p.r p.s)) w := exec_cell ho hx (load_dot h)
theorem exec_store33 {x y : Operand} {g : Nat} {p u : O} (ho : o.op = .store 33 x y) (hx : ev x = .pointer (some ⟨g, 0, none⟩)) (hy : ev y = .agg u.arr) (h : Blk w g 33 p.arr) : (execOp ev o).run Tryz.prog w = .ok .skip (w.setRow g u.arr) := by
 unfold execOp
 simp only [ho, hx, hy, Sem.run_bind, store33 (u := u) h, Result.andThen_ok]
 rfl
theorem exec_alloc33 (ho : o.op = .alloc 33) : (execOp ev o).run Tryz.prog w = .ok (.value (.pointer (some ⟨w.heap.size, 0, none⟩))) (w.alloc (.cells O.zero.arr 33)) := by
 unfold execOp
 simp only [ho, Sem.run_bind, alloc33, Result.andThen_ok]
 rfl
theorem exec_lssI {x y : Operand} {u t : TypeId} {k : IntKind} {a b : Int} {r : Bool} (ho : o.op = .binOp .lss u x y t) (hx : ev x = .int k a) (hy : ev y = .int k b) (hr : decide (a < b) = r) : (execOp ev o).run Tryz.prog w = .ok (.value (.bool r)) w := by
 subst hr
 unfold execOp
 simp [ho, hx, hy, eqGuard, binOp, Op.intCmp]
theorem exec_leqI {x y : Operand} {u t : TypeId} {k : IntKind} {a b : Int} {r : Bool} (ho : o.op = .binOp .leq u x y t) (hx : ev x = .int k a) (hy : ev y = .int k b) (hr : decide (a ≤ b) = r) : (execOp ev o).run Tryz.prog w = .ok (.value (.bool r)) w := by
 subst hr
 unfold execOp
 simp [ho, hx, hy, eqGuard, binOp, Op.intCmp]
theorem exec_geqI {x y : Operand} {u t : TypeId} {k : IntKind} {a b : Int} {r : Bool} (ho : o.op = .binOp .geq u x y t) (hx : ev x = .int k a) (hy : ev y = .int k b) (hr : decide (b ≤ a) = r) : (execOp ev o).run Tryz.prog w = .ok (.value (.bool r)) w := by
 subst hr
 unfold execOp
 simp [ho, hx, hy, eqGuard, binOp, Op.intCmp]
end
theorem O.part7 (o : O) : o.arr.extract 7 23 = o.v.arr := by
 have h := o.v.cs_len
 simp [O.cs, O.hd, ← h]
theorem part_ctx (o : O) (w : World) : (part 24 o.arr 7).run Tryz.prog w = .ok (.agg o.v.arr) w := by
 have ha : (isAgg 24).run Tryz.prog w = .ok true w := by kernel_rfl
 have hz : (Go.sizeOf 24).run Tryz.prog w = .ok 16 w := by kernel_rfl
 have h7 := o.part7
 simp only [part, Sem.run_bind, ha, hz, Result.andThen_ok, if_true, Sem.run_pure]
 rw [h7]
theorem eqF_nil {d : Nat} {xs ys : Array Value} {w : World} : (Op.eqFields d xs ys []).run Tryz.prog w = .ok true w := by simp [Op.eqFields]
section
variable {ops : Array Oper} {rest : List Oper} {o : Oper} {act : Act} {Q : Exit → Act → World → Prop} {W W2 : World}
theorem wpList_runW {v : Value} (hrun : (execOp act.eval o).run Tryz.prog W = .ok (.value v) W2) (hw : Region.wanted o (yielded ops act.tmps) = true)
  (k : wpList Tryz.prog ops Q rest (act.put o.dst v) W2) : wpList Tryz.prog ops Q (o :: rest) act W :=
 BigFrame.wpList_want hw fun _ hK => by
  unfold Oper.wp
  rw [hrun]
  exact hK _ _ k
theorem wpList_stop33 {x y : Operand} (_ho : o.op = .store 33 x y) (k : Halt_ (wpList Tryz.prog ops Q (o :: rest) act W)) : wpList Tryz.prog ops Q (o :: rest) act W := k.out
end
structure Ow (w W : World) (o : O) : Prop where
 one : Blk W w.heap.size 33 o.arr
 old : Below w.heap.size w W
theorem ow_new (w : World) (o : O) : Ow w (w.alloc (.cells o.arr 33)) o := ⟨Blk.new w 33 o.arr, below_one _ _⟩
theorem Ow.below {w W W' : World} {o : O} (h : Ow w W o) (hb : Below W.heap.size W W') : Ow w W' o := ⟨h.one.below hb, h.old.trans (hb.mono h.old.size)⟩
theorem Ow.drew {w W : World} {o : O} (h : Ow w W o) : Ow w W.drew o := ⟨h.one, h.old.drew⟩
structure Ow2 (w W : World) (a b : O) : Prop where
 one : Blk W w.heap.size 33 a.arr
 two : Blk W (w.heap.size + 1) 33 b.arr
 old : Below w.heap.size w W
theorem ow2_new (w : World) (a b : O) : Ow2 w ((w.alloc (.cells a.arr 33)).alloc (.cells b.arr 33)) a b := by
 have h1 := Blk.new w 33 a.arr
 have h2 := Blk.new (w.alloc (.cells a.arr 33)) 33 b.arr
 have k2 := Kept.alloc (fun _ => False) (w.alloc (.cells a.arr 33)) (.cells b.arr 33)
 simp only [World.size_alloc] at h2
 exact ⟨h1.kept k2 (fun h => h), h2, below_two' _ _ _⟩
theorem Ow2.below {w W W' : World} {a b : O} (h : Ow2 w W a b) (hb : Below W.heap.size W W') : Ow2 w W' a b := ⟨h.one.below hb, h.two.below hb, h.old.trans (hb.mono h.old.size)⟩
theorem Ow2.drew {w W : World} {a b : O} (h : Ow2 w W a b) : Ow2 w W.drew a b := ⟨h.one, h.two, h.old.drew⟩
structure Vo (w W : World) (v : V) (o : O) : Prop where
 vec : Blk W w.heap.size 24 v.arr
 two : Blk W (w.heap.size + 1) 33 o.arr
 old : Below w.heap.size w W
theorem vo_new (w : World) (v : V) (o : O) : Vo w ((w.alloc (.cells v.arr 24)).alloc (.cells o.arr 33)) v o := by
 have h1 := Blk.new w 24 v.arr
 have h2 := Blk.new (w.alloc (.cells v.arr 24)) 33 o.arr
 have k2 := Kept.alloc (fun _ => False) (w.alloc (.cells v.arr 24)) (.cells o.arr 33)
 simp only [World.size_alloc] at h2
 exact ⟨h1.kept k2 (fun h => h), h2, below_two' _ _ _⟩
theorem Vo.below {w W W' : World} {v : V} {o : O} (h : Vo w W v o) (hb : Below W.heap.size W W') : Vo w W' v o := ⟨h.vec.below hb, h.two.below hb, h.old.trans (hb.mono h.old.size)⟩
theorem olaid_blk (w : World) (z o : O) : Blk ((w.alloc (.cells z.arr 33)).setRow w.heap.size o.arr) w.heap.size 33 o.arr := (Blk.new w 33 z.arr).row
theorem olaid_old (w : World) (z o : O) : Below w.heap.size w ((w.alloc (.cells z.arr 33)).setRow w.heap.size o.arr) :=
 (below_one w _).trans ((Kept.setRow (w.alloc (.cells z.arr 33)) w.heap.size o.arr).below (by simp) (fun k hk => by omega))
end Go.Proofs.YtnekpgmgnepdoaaGreat
end
section
namespace Go.Proofs.YtnekpgmgnepdoaaGreat
open Go.RowKit
set_option maxHeartbeats 1000000 in
theorem makes_any (o : O) (w : World) : Calls Tryz.prog 124 #[.agg o.arr] w (Says (.bool o.laysB) w) := by
 have hb1 := fun w => box33 o w
 have HT := Lib.hid (ow_new w o)
 have c2 := oc2 (ow_new w o).one
 have hk := o.hk
 by_cases h1 : o.k = 1
 ·have HE : Hid (o.laysB = true) := Lib.hid (by unfold O.laysB; simp <;> omega)
  rw [h1] at c2
  go_enter Tryz.func124, Tryz.ntmps124
  go_wp2_with fail
  go_ret
  exact ⟨ret_bool HE.out.symm, HT.out.old⟩
 by_cases h2 : o.k = 2
 ·have HE : Hid (o.laysB = true) := Lib.hid (by unfold O.laysB; simp <;> omega)
  rw [h2] at c2
  go_enter Tryz.func124, Tryz.ntmps124
  go_wp2_with fail
  go_ret
  exact ⟨ret_bool HE.out.symm, HT.out.old⟩
 by_cases h4 : o.k = 4
 ·have HE : Hid (o.laysB = true) := Lib.hid (by unfold O.laysB; simp <;> omega)
  rw [h4] at c2
  go_enter Tryz.func124, Tryz.ntmps124
  go_wp2_with fail
  go_ret
  exact ⟨ret_bool HE.out.symm, HT.out.old⟩
 have HE : Hid (o.laysB = false) := Lib.hid (by unfold O.laysB; simp <;> omega)
 have gk1 : ((o.k : Int) == 1) = false := by simp <;> omega
 have gk2 : ((o.k : Int) == 2) = false := by simp <;> omega
 have gk4 : ((o.k : Int) == 4) = false := by simp <;> omega
 go_enter Tryz.func124, Tryz.ntmps124
 go_wp2_with fail
 go_ret
 exact ⟨ret_bool HE.out.symm, HT.out.old⟩
set_option maxHeartbeats 1000000 in
theorem count_any (o : O) (w : World) : Calls Tryz.prog 89 #[.agg o.arr] w (Says (.int .u64 (o.count : Int)) w) := by
 have hb1 := fun w => box33 o w
 have HT := Lib.hid (ow_new w o)
 have HS := Lib.hid (fun w => sum_any o.v w)
 have hl := V.sum_lt o.v
 have HC : Hid (o.count = V.sum o.v + 1) := Lib.hid rfl
 generalize V.sum o.v = x at HS hl HC
 go_enter Tryz.func89, Tryz.ntmps89
 go_wp2_with (refine wpList_run rfl (exec_ctx (p := o) rfl rfl HT.out.one) ?_)
 clear hb1
 generalize w.alloc (.cells o.arr 33) = W at HT
 refine (HS.out _).mono ?_
 rintro e w1 ⟨rfl, hb⟩
 have HT1 := Lib.hid (HT.out.below hb)
 clear hb
 go_wp2_with fail
 go_ret
 exact ⟨ret_int (by rw [HC.out]; omega), HT1.out.old⟩
end Go.Proofs.YtnekpgmgnepdoaaGreat
end
section
namespace Go.Proofs.YtnekpgmgnepdoaaGreat
open Go.RowKit
section
variable {ev : Operand → Value} {o : Oper} {w : World}
theorem exec_index24 {x y : Operand} {b off j : Nat} (ho : o.op = .indexAddr 24 x y) (hx : ev x = .pointer (some ⟨b, off, none⟩)) (hy : ev y = .int .u8 (j : Int)) (hj : j < 16) : (execOp ev o).run Tryz.prog w = .ok (.value (.pointer (some ⟨b, off + j, none⟩))) w := by
 unfold execOp
 have h2 : (j : Int) < 16 := by omega
 have h0 : (0 : Int) ≤ (j : Int) := by omega
 have hu := und24
 have hz : (Go.sizeOf 22).run Tryz.prog w = .ok 1 w := by kernel_rfl
 simp only [ho, hx, hy]
 go_simp
theorem exec_pred {x y : Operand} {s : Nat} (ho : o.op = .binOp .sub 22 x y 22) (hx : ev x = .int .u32 (s : Int)) (hy : ev y = .int .u32 1) (hs : s < 4294967296) (h1 : 1 ≤ s) : (execOp ev o).run Tryz.prog w = .ok (.value (.int .u32 ((s - 1 : Nat) : Int))) w := by
 have e : IntKind.u32.wrap ((s : Int) - 1) = (s : Int) - 1 := by have := wrap_sub s 1 hs h1; simpa using this
 have e2 : ((s - 1 : Nat) : Int) = (s : Int) - 1 := by omega
 rw [e2, ← e]
 unfold execOp
 simp [ho, hx, hy, eqGuard, binOp, Op.intArith]
end
theorem pred_eq {x s : Nat} (h : 1 ≤ s) (e : x + 1 = s) : ((x : Int) == ((s - 1 : Nat) : Int)) = true := by simp; omega
theorem pred_ne {x s : Nat} (h : 1 ≤ s) (e : ¬ x + 1 = s) : ((x : Int) == ((s - 1 : Nat) : Int)) = false := by simp; omega
theorem tick_le {t : Nat} (h : t ≤ 1073741824) : decide ((t : Int) ≤ 1073741824) = true := by simp; omega
theorem tick_gt {t : Nat} (h : ¬ t ≤ 1073741824) : decide ((t : Int) ≤ 1073741824) = false := by simp; omega
set_option maxHeartbeats 4000000 in
theorem less_any (a b : O) (w : World) : Calls Tryz.prog 119 #[.agg a.arr, .agg b.arr] w (Says (.bool (O.lessB a b)) w) := by
 have hb1 := fun (o : O) w => box33 o w
 have HT := Lib.hid (ow2_new w a b)
 have HA := Lib.hid (fun w => count_any a w)
 have HB := Lib.hid (fun w => count_any b w)
 have HL : Hid (O.lessB a b = decide (a.count < b.count ∨ (a.count = b.count ∧ (a.r < b.r ∨ (a.r = b.r ∧ a.s < b.s))))) := Lib.hid rfl
 have la := a.count_lt
 have lb := b.count_lt
 have ra := a.hr
 have rb := b.hr
 have sa := a.hs
 have sb := b.hs
 generalize a.count = x at HA HL la
 generalize b.count = y at HB HL lb
 go_enter Tryz.func119, Tryz.ntmps119
 go_wp2_with fail
 clear hb1
 generalize (w.alloc (.cells a.arr 33)).alloc (.cells b.arr 33) = W at HT
 refine wp_region_held_drew (S := fun w' => Ow2 w w' a b) (by kernel_rfl) HT.out.drew (fun hS => ?_)
 refine held_tk 0 7 (.agg a.arr) rfl rfl (by kernel_rfl) (fun _ _ _ h => h) (fun _ h => exec_load33 (p := a) rfl rfl h.one) hS ?_
 simp only [Act.put, ap1, ap2, ap3]
 refine held_tk 2 9 (.agg b.arr) rfl rfl (by kernel_rfl) (fun _ _ _ h => h) (fun _ h => exec_load33 (p := b) rfl rfl h.two) hS ?_
 simp only [Act.put, ap1, ap2, ap3]
 refine held_call 1 8 89 #[(.agg a.arr)] (.int .u64 (x : Int)) rfl (by kernel_rfl) rfl (by kernel_rfl) (by kernel_rfl) (HA.out _) (fun _ h hb => h.below hb) hS (fun w101 hS => ?_)
 simp only [Act.put, ap1, ap2, ap3]
 refine held_call 3 10 89 #[(.agg b.arr)] (.int .u64 (y : Int)) rfl (by kernel_rfl) rfl (by kernel_rfl) (by kernel_rfl) (HB.out _) (fun _ h hb => h.below hb) hS (fun w225 hS => ?_)
 simp only [Act.put, ap1, ap2, ap3]
 refine held_tk 4 5 (.int .u64 (x : Int)) rfl rfl (by kernel_rfl) (fun _ _ _ h => h) (fun _ _ => rfl) hS ?_
 simp only [Act.put, ap1, ap2, ap3]
 refine held_tk 5 6 (.int .u64 (y : Int)) rfl rfl (by kernel_rfl) (fun _ _ _ h => h) (fun _ _ => rfl) hS ?_
 simp only [Act.put, ap1, ap2, ap3]
 refine wpAnyH_done (by kernel_rfl) ?_ _
 have HT2 := Lib.hid hS
 clear hS
 by_cases hc : x = y
 ·subst hc
  have c0 := oc0 HT2.out.one
  have d0 := oc0 HT2.out.two
  by_cases hr : a.r = b.r
  ·have c1 := oc1 HT2.out.one
   have d1 := oc1 HT2.out.two
   have g1 : ((a.r : Int) != (b.r : Int)) = false := by simp; omega
   go_wp2_with fail
   go_ret
   exact ⟨ret_bool (by rw [HL.out, Bool.eq_iff_iff]; simp; omega), HT2.out.old⟩
  ·have g1 : ((a.r : Int) != (b.r : Int)) = true := by simp; omega
   go_wp2_with fail
   go_ret
   exact ⟨ret_bool (by rw [HL.out, Bool.eq_iff_iff]; simp; omega), HT2.out.old⟩
 ·have g0 : ((x : Int) != (y : Int)) = true := by simp; omega
  go_wp2_with fail
  go_ret
  exact ⟨ret_bool (by rw [HL.out, Bool.eq_iff_iff]; simp; omega), HT2.out.old⟩
end Go.Proofs.YtnekpgmgnepdoaaGreat
end
section
namespace Go.Proofs.YtnekpgmgnepdoaaGreat
open Go.RowKit
set_option maxHeartbeats 4000000 in
theorem ends_any (o p : O) (w : World) : Calls Tryz.prog 87 #[.agg o.arr, .agg p.arr] w (Says (.bool (O.endsB o p)) w) := by
 have hb1 := fun (o : O) w => box33 o w
 have HT := Lib.hid (ow2_new w o p)
 have HM := Lib.hid (fun w => makes_any p w)
 have HH := Lib.hid (fun w => has_any o.v p.r p.s w p.hr p.hs)
 have HL : Hid (O.endsB o p = decide (p.laysB = true ∧ o.c = p.c ∧ V.hasB o.v p.r p.s = true ∧ (o.k = 5 ∨ ((o.k = 3 ∨ o.k = 2) ∧ p.k ≠ 4 ∧ o.i = p.i)))) := Lib.hid rfl
 have b1 := o.hk
 have b2 := p.hk
 have b3 := o.hc
 have b4 := p.hc
 have b5 := o.hi
 have b6 := p.hi
 go_enter Tryz.func87, Tryz.ntmps87
 go_wp2_with (refine wpList_run rfl (exec_load33 (p := p) rfl rfl HT.out.two) ?_)
 clear hb1
 generalize (w.alloc (.cells o.arr 33)).alloc (.cells p.arr 33) = W at HT
 cases hm : p.laysB
 ·have HE : Hid (O.endsB o p = false) := Lib.hid (by rw [HL.out, hm]; simp)
  rw [hm] at HM
  clear hm
  refine (HM.out _).mono ?_
  rintro e w1 ⟨rfl, hb⟩
  have HT2 := Lib.hid (HT.out.below hb)
  clear hb
  go_wp2_with fail
  go_ret
  exact ⟨ret_bool HE.out.symm, HT2.out.old⟩
 rw [hm] at HM HL
 clear hm
 refine (HM.out _).mono ?_
 rintro e w1 ⟨rfl, hb⟩
 have HT1 := Lib.hid (HT.out.below hb)
 clear hb HT
 have c3 := oc3 HT1.out.one
 have d3 := oc3 HT1.out.two
 by_cases hc : o.c = p.c
 ·have gc : ((o.c : Int) != (p.c : Int)) = false := by simp <;> omega
  go_wp2_with (first | (refine wpList_runW (exec_ctx (p := o) rfl rfl HT1.out.one) (by kernel_rfl) ?_) | (refine wpList_runW (exec_dot (p := p) rfl rfl HT1.out.two) (by kernel_rfl) ?_))
  clear c3 d3
  cases hh : V.hasB o.v p.r p.s
  ·have HE : Hid (O.endsB o p = false) := Lib.hid (by rw [HL.out, hh]; simp)
   rw [hh] at HH
   clear hh
   refine (HH.out _).mono ?_
   rintro e w2 ⟨rfl, hb⟩
   have HT2 := Lib.hid (HT1.out.below hb)
   clear hb
   go_wp2_with fail
   go_ret
   exact ⟨ret_bool HE.out.symm, HT2.out.old⟩
  ·have HL2 : Hid (O.endsB o p = decide (o.k = 5 ∨ ((o.k = 3 ∨ o.k = 2) ∧ p.k ≠ 4 ∧ o.i = p.i))) := Lib.hid (by rw [HL.out, hh]; simp [hc])
   rw [hh] at HH
   clear hh HL
   refine (HH.out _).mono ?_
   rintro e w2 ⟨rfl, hb⟩
   have HT2 := Lib.hid (HT1.out.below hb)
   clear hb HT1
   have c2 := oc2 HT2.out.one
   have d2 := oc2 HT2.out.two
   have c4 := oc4 HT2.out.one
   have d4 := oc4 HT2.out.two
   by_cases k5 : o.k = 5
   ·rw [k5] at c2
    have HE : Hid (O.endsB o p = true) := Lib.hid (by rw [HL2.out]; simp <;> omega)
    go_wp2_with fail
    go_ret
    exact ⟨ret_bool HE.out.symm, HT2.out.old⟩
   by_cases k3 : o.k = 3
   ·rw [k3] at c2
    by_cases e4 : p.k = 4
    ·have HE : Hid (O.endsB o p = false) := Lib.hid (by rw [HL2.out]; simp <;> omega)
     rw [e4] at d2
     go_wp2_with fail
     go_ret
     exact ⟨ret_bool HE.out.symm, HT2.out.old⟩
    ·have HE : Hid (O.endsB o p = decide (o.i = p.i)) := Lib.hid (by rw [HL2.out, Bool.eq_iff_iff]; simp <;> omega)
     have g4 : ((p.k : Int) != 4) = true := by simp <;> omega
     go_wp2_with fail
     go_ret
     exact ⟨ret_bool (by rw [HE.out, Bool.eq_iff_iff]; simp <;> omega), HT2.out.old⟩
   by_cases k2 : o.k = 2
   ·rw [k2] at c2
    by_cases e4 : p.k = 4
    ·have HE : Hid (O.endsB o p = false) := Lib.hid (by rw [HL2.out]; simp <;> omega)
     rw [e4] at d2
     go_wp2_with fail
     go_ret
     exact ⟨ret_bool HE.out.symm, HT2.out.old⟩
    ·have HE : Hid (O.endsB o p = decide (o.i = p.i)) := Lib.hid (by rw [HL2.out, Bool.eq_iff_iff]; simp <;> omega)
     have g4 : ((p.k : Int) != 4) = true := by simp <;> omega
     go_wp2_with fail
     go_ret
     exact ⟨ret_bool (by rw [HE.out, Bool.eq_iff_iff]; simp <;> omega), HT2.out.old⟩
   have HE : Hid (O.endsB o p = false) := Lib.hid (by rw [HL2.out]; simp <;> omega)
   have g5 : ((o.k : Int) == 5) = false := by simp <;> omega
   have g3 : ((o.k : Int) == 3) = false := by simp <;> omega
   have g2 : ((o.k : Int) == 2) = false := by simp <;> omega
   go_wp2_with fail
   go_ret
   exact ⟨ret_bool HE.out.symm, HT2.out.old⟩
 ·have HE : Hid (O.endsB o p = false) := Lib.hid (by rw [HL.out]; simp [hc])
  have gc : ((o.c : Int) != (p.c : Int)) = true := by simp <;> omega
  go_wp2_with fail
  go_ret
  exact ⟨ret_bool HE.out.symm, HT1.out.old⟩
end Go.Proofs.YtnekpgmgnepdoaaGreat
end
section
namespace Go.Proofs.YtnekpgmgnepdoaaGreat
open Go.RowKit Go.Maps
def anyE : Value → Option (DataW Value × List MemPlace) := fun v => some (.held v, [])
structure MpD (w : World) (k m n : Nat) (f : Lit → Option Value) (D : DataW Value) : Prop where
 own : w.ownsMap Tryz.prog k anyE m n D
 size : Maps.size D = n
 has : ∀ kl, Maps.has D kl = (f kl).isSome
 val : ∀ kl v, f kl = some v → ∀ z, D.atKey kl z = .held v
def MpF (w : World) (k m n : Nat) (f : Lit → Option Value) : Prop := ∃ D, MpD w k m n f D
theorem MpF.lt {w : World} {k m n : Nat} {f : Lit → Option Value} (h : MpF w k m n f) : m < w.heap.size := by
 obtain ⟨D, h⟩ := h; exact h.own.lt
theorem MpF.kept {S : Nat → Prop} {w w' : World} {k m n : Nat} {f : Lit → Option Value} (h : MpF w k m n f) (kp : Kept S w w') (hn : ¬ S m) : MpF w' k m n f := by
 obtain ⟨D, h⟩ := h
 have hlt := h.own.lt
 obtain ⟨es, clock, hb, rest⟩ := h.own
 exact ⟨D, ⟨es, clock, (kp.block m hlt hn).trans hb, rest⟩, h.size, h.has, h.val⟩
theorem mpF_new (w : World) (k : Nat) : MpF (w.alloc (.map #[] 0)) k w.heap.size 0 (fun _ => none) :=
 ⟨_, World.ownsMap_made w Tryz.prog k anyE, rfl, fun _ => rfl, fun _ _ h => by cases h⟩
open Classical in
noncomputable def upd (f : Lit → Option Value) (kl : Lit) (v : Value) : Lit → Option Value := fun x => if x = kl then some v else f x
theorem upd_same (f : Lit → Option Value) (kl : Lit) (v : Value) : upd f kl v kl = some v := by unfold upd; exact if_pos rfl
theorem upd_other (f : Lit → Option Value) {kl x : Lit} (v : Value) (h : x ≠ kl) : upd f kl v x = f x := by unfold upd; exact if_neg h
end Go.Proofs.YtnekpgmgnepdoaaGreat
end
section
namespace Go.Proofs.YtnekpgmgnepdoaaGreat
structure En where
 c : Nat
 i : Nat
 q : Nat
 k : Nat
 r : Nat
 s : Nat
 n : Nat
 hc : c < 65536
 hi : i < 65536
 hq : q < 65536
 hk : k < 256
 hr : r < 256
 hs : s < 4294967296
 hn : n < 18446744073709551616
structure La where
 c : Nat
 t : Nat
 hc : c < 65536
 ht : t < 4294967296
namespace En
theorem ext' {a b : En} (h0 : a.c = b.c) (h1 : a.i = b.i) (h2 : a.q = b.q) (h3 : a.k = b.k) (h4 : a.r = b.r) (h5 : a.s = b.s) (h6 : a.n = b.n) : a = b := by
 cases a; cases b
 simp only at h0 h1 h2 h3 h4 h5 h6
 subst h0 h1 h2 h3 h4 h5 h6
 rfl
def zero : En := ⟨0, 0, 0, 0, 0, 0, 0, by omega, by omega, by omega, by omega, by omega, by omega, by omega⟩
def eqB (a b : En) : Bool := decide (a.c = b.c ∧ a.i = b.i ∧ a.q = b.q ∧ a.k = b.k ∧ a.r = b.r ∧ a.s = b.s ∧ a.n = b.n)
theorem eqB_iff (a b : En) : eqB a b = true ↔ a = b := by
 unfold eqB
 rw [decide_eq_true_eq]
 constructor
 ·rintro ⟨h0, h1, h2, h3, h4, h5, h6⟩; exact ext' h0 h1 h2 h3 h4 h5 h6
 ·rintro rfl; simp
instance : DecidableEq En := fun a b => decidable_of_iff _ (eqB_iff a b)
def Ahead (a b : En) : Prop := a.c < b.c ∨ (a.c = b.c ∧ (a.r < b.r ∨ (a.r = b.r ∧ a.s < b.s)))
instance (a b : En) : Decidable (Ahead a b) := inferInstanceAs (Decidable (_ ∨ _))
def aheadB (a b : En) : Bool := decide (Ahead a b)
theorem aheadB_iff (a b : En) : aheadB a b = true ↔ Ahead a b := by unfold aheadB; exact decide_eq_true_iff
theorem aheadB_not (a b : En) : aheadB a b = false ↔ ¬ Ahead a b := by rw [← aheadB_iff]; simp
theorem Ahead.trans {a b c : En} (h : Ahead a b) (k : Ahead b c) : Ahead a c := by unfold Ahead at *; omega
theorem Ahead.irrefl (a : En) : ¬ Ahead a a := by unfold Ahead; omega
theorem Ahead.asymm {a b : En} (h : Ahead a b) : ¬ Ahead b a := by unfold Ahead at *; omega
def Like (a b : En) : Prop := a.c = b.c ∧ a.r = b.r ∧ a.s = b.s
theorem tri (a b : En) : Ahead a b ∨ Like a b ∨ Ahead b a := by unfold Ahead Like; omega
def ord (a b : En) : Int := if a.c < b.c then -1 else if b.c < a.c then 1 else if a.r < b.r then -1 else if b.r < a.r then 1 else if a.s < b.s then -1 else if b.s < a.s then 1 else 0
theorem ord_neg (a b : En) : ord a b < 0 ↔ Ahead a b := by unfold ord Ahead; repeat' split <;> omega
def shapedB (e : En) : Bool := decide ((e.k = 1 ∧ 1 ≤ e.q) ∨ e.k = 2 ∨ (e.k = 4 ∧ e.i = 0 ∧ e.q = 0))
def lessB (a b : En) : Bool := decide (a.n < b.n ∨ (a.n = b.n ∧ (a.r < b.r ∨ (a.r = b.r ∧ a.s < b.s))))
def maker (e : En) : O := ⟨e.r, e.s, e.k, e.c, e.i, 0, 0, V.zero, e.hr, e.hs, e.hk, e.hc, e.hi, by omega, by omega⟩
def made (o : O) : En := ⟨o.c, o.i, o.q, o.k, o.r, o.s, o.count, o.hc, o.hi, o.hq, o.hk, o.hr, o.hs, by have := o.count_lt; omega⟩
end En
namespace La
theorem ext' {a b : La} (h0 : a.c = b.c) (h1 : a.t = b.t) : a = b := by
 cases a; cases b
 simp only at h0 h1
 subst h0 h1
 rfl
def eqB (a b : La) : Bool := decide (a.c = b.c ∧ a.t = b.t)
theorem eqB_iff (a b : La) : eqB a b = true ↔ a = b := by
 unfold eqB
 rw [decide_eq_true_eq]
 constructor
 ·rintro ⟨h0, h1⟩; exact ext' h0 h1
 ·rintro rfl; simp
instance : DecidableEq La := fun a b => decidable_of_iff _ (eqB_iff a b)
end La
structure Sta where
 v : V
 es : List En
 ts : List La
def Sta.zero : Sta := ⟨V.zero, [], []⟩
structure TsR (l : List La) : Prop where
 le : ∀ t ∈ l, t.t ≤ 1073741824
 up : l.Pairwise fun a b => a.c < b.c
structure Sta.Right (s : Sta) : Prop where
 vec : V.rightB s.v 16 = true
 ts : TsR s.ts
 has : ∀ e ∈ s.es, (∃ t ∈ s.ts, t.c = e.c) ∧ V.hasB s.v e.r e.s = true ∧ e.shapedB = true ∧ 1 ≤ e.n ∧ e.n ≤ 16777217
 ord : s.es.Pairwise En.Ahead
 one : s.es.Pairwise fun a b => ¬ (a.r = b.r ∧ a.s = b.s)
def putE (x : En) : List En → List En
 | [] => [x]
 | y :: l => if En.aheadB x y = true then x :: y :: l else y :: putE x l
def ticked (x : La) : List La → List La
 | [] => [x]
 | y :: l => if y.c = x.c then (⟨x.c, max y.t x.t, x.hc, by have := y.ht; have := x.ht; omega⟩ : La) :: l else if x.c < y.c then x :: y :: l else y :: ticked x l
def tkOf (l : List La) (c : Nat) : Option Nat := (l.find? fun t => decide (t.c = c)).map (·.t)
def leftE (l : List En) (o : O) : List En := l.filter fun e => !O.endsB o e.maker
def applyE (l : List En) (o : O) : List En := if o.laysB = true then putE (En.made o) (leftE l o) else leftE l o
def tickO (o : O) : La := ⟨o.c, o.t, o.hc, o.ht⟩
def applyS (s : Sta) (o : O) : Sta := ⟨V.put s.v o.r o.s, applyE s.es o, ticked (tickO o) s.ts⟩
theorem putE_perm (x : En) : ∀ l, (putE x l).Perm (x :: l)
 | [] => List.Perm.refl _
 | y :: l => by
  unfold putE
  split
  ·exact List.Perm.refl _
  ·exact ((putE_perm x l).cons y).trans (List.Perm.swap x y l)
theorem mem_putE {x y : En} {l : List En} : y ∈ putE x l ↔ y = x ∨ y ∈ l := by
 rw [(putE_perm x l).mem_iff, List.mem_cons]
theorem putE_ord {x : En} : ∀ {l : List En}, l.Pairwise En.Ahead → (∀ y ∈ l, ¬ En.Like x y) → (putE x l).Pairwise En.Ahead
 | [], _, _ => by simp [putE]
 | y :: l, h, hn => by
  obtain ⟨h1, h2⟩ := List.pairwise_cons.1 h
  unfold putE
  split
  ·rename_i ha
   rw [En.aheadB_iff] at ha
   refine List.pairwise_cons.2 ⟨fun z hz => ?_, h⟩
   rcases List.mem_cons.1 hz with rfl | hz
   ·exact ha
   ·exact ha.trans (h1 z hz)
  ·rename_i ha
   rw [Bool.not_eq_true, En.aheadB_not] at ha
   have hyx : En.Ahead y x := by
    rcases En.tri x y with h | h | h
    ·exact absurd h ha
    ·exact absurd h (hn y List.mem_cons_self)
    ·exact h
   refine List.pairwise_cons.2 ⟨fun z hz => ?_, putE_ord h2 fun z hz => hn z (List.mem_cons_of_mem _ hz)⟩
   rcases mem_putE.1 hz with rfl | hz
   ·exact hyx
   ·exact h1 z hz
theorem putE_at {x : En} : ∀ {l : List En}, l.Pairwise En.Ahead → (∀ y ∈ l, ¬ En.Like x y) → ∀ {k : Nat}, l.countP (fun y => decide (En.ord y x < 0)) = k → l.take k ++ x :: l.drop k = putE x l
 | [], _, _, k, hk => by simp [putE]
 | y :: l, h, hn, k, hk => by
  obtain ⟨h1, h2⟩ := List.pairwise_cons.1 h
  by_cases ha : En.Ahead x y
  ·have e0 : (y :: l).countP (fun y => decide (En.ord y x < 0)) = 0 := by
    rw [List.countP_eq_zero]
    intro z hz
    rw [decide_eq_true_eq, En.ord_neg]
    rcases List.mem_cons.1 hz with rfl | hz
    ·exact ha.asymm
    ·exact (ha.trans (h1 z hz)).asymm
   rw [e0] at hk
   subst hk
   simp [putE, (En.aheadB_iff x y).2 ha]
  ·have hyx : En.Ahead y x := by
    rcases En.tri x y with h | h | h
    ·exact absurd h ha
    ·exact absurd h (hn y List.mem_cons_self)
    ·exact h
   rw [List.countP_cons_of_pos (by rw [decide_eq_true_eq, En.ord_neg]; exact hyx)] at hk
   subst hk
   rw [List.take_succ_cons, List.drop_succ_cons, List.cons_append, putE_at h2 (fun z hz => hn z (List.mem_cons_of_mem _ hz)) rfl]
   simp [putE, (En.aheadB_not x y).2 ha]
theorem tkOf_nil (c : Nat) : tkOf [] c = none := rfl
theorem tkOf_cons (y : La) (l : List La) (c : Nat) : tkOf (y :: l) c = if y.c = c then some y.t else tkOf l c := by
 unfold tkOf
 by_cases h : y.c = c <;> simp [h]
theorem tkOf_none {l : List La} {c : Nat} (h : ∀ y ∈ l, y.c ≠ c) : tkOf l c = none := by
 unfold tkOf
 rw [List.find?_eq_none.2 fun y hy => by simpa using h y hy]
 rfl
theorem tkOf_some {l : List La} {c : Nat} : (tkOf l c).isSome = true ↔ ∃ t ∈ l, t.c = c := by
 unfold tkOf
 simp [List.find?_isSome]
theorem ts_unique : ∀ {l m : List La}, l.Pairwise (fun a b => a.c < b.c) → m.Pairwise (fun a b => a.c < b.c) → (∀ c, tkOf l c = tkOf m c) → l = m
 | [], [], _, _, _ => rfl
 | [], y :: m, _, _, h => by have := h y.c; rw [tkOf_nil, tkOf_cons, if_pos rfl] at this; cases this
 | x :: l, [], _, _, h => by have := h x.c; rw [tkOf_nil, tkOf_cons, if_pos rfl] at this; cases this
 | x :: l, y :: m, hl, hm, h => by
  obtain ⟨l1, l2⟩ := List.pairwise_cons.1 hl
  obtain ⟨m1, m2⟩ := List.pairwise_cons.1 hm
  have hc : x.c = y.c := by
   rcases Nat.lt_trichotomy x.c y.c with hlt | he | hlt
   ·have := h x.c
    rw [tkOf_cons, if_pos rfl, tkOf_none (l := y :: m) (fun z hz => by rcases List.mem_cons.1 hz with rfl | hz; omega; have := m1 z hz; omega)] at this
    cases this
   ·exact he
   ·have := h y.c
    rw [tkOf_cons y m, if_pos rfl, tkOf_none (l := x :: l) (fun z hz => by rcases List.mem_cons.1 hz with rfl | hz; omega; have := l1 z hz; omega)] at this
    cases this
  have hxy : x = y := La.ext' hc (by
   have := h x.c
   rw [tkOf_cons, if_pos rfl, tkOf_cons, if_pos hc.symm] at this
   exact Option.some.inj this)
  subst hxy
  congr 1
  refine ts_unique l2 m2 fun c => ?_
  have := h c
  rw [tkOf_cons, tkOf_cons] at this
  by_cases e : x.c = c
  ·subst e
   rw [tkOf_none fun z hz => by have := l1 z hz; omega, tkOf_none fun z hz => by have := m1 z hz; omega]
  ·rwa [if_neg e, if_neg e] at this
theorem mem_ticked {x y : La} : ∀ {l : List La}, y ∈ ticked x l → y.c = x.c ∨ y ∈ l
 | [], h => by simp only [ticked, List.mem_singleton] at h; exact .inl (by rw [h])
 | z :: l, h => by
  unfold ticked at h
  split at h
  ·rcases List.mem_cons.1 h with rfl | h
   ·exact .inl rfl
   ·exact .inr (List.mem_cons_of_mem _ h)
  ·split at h
   ·rcases List.mem_cons.1 h with rfl | h
    ·exact .inl rfl
    ·exact .inr h
   ·rcases List.mem_cons.1 h with rfl | h
    ·exact .inr List.mem_cons_self
    ·rcases mem_ticked h with h | h
     ·exact .inl h
     ·exact .inr (List.mem_cons_of_mem _ h)
theorem ticked_up {x : La} : ∀ {l : List La}, l.Pairwise (fun a b => a.c < b.c) → (ticked x l).Pairwise fun a b => a.c < b.c
 | [], _ => by simp [ticked]
 | y :: l, h => by
  obtain ⟨h1, h2⟩ := List.pairwise_cons.1 h
  unfold ticked
  split
  ·rename_i e
   exact List.pairwise_cons.2 ⟨fun z hz => by have := h1 z hz; show x.c < z.c; omega, h2⟩
  ·split
   ·refine List.pairwise_cons.2 ⟨fun z hz => ?_, h⟩
    rcases List.mem_cons.1 hz with rfl | hz
    ·assumption
    ·have := h1 z hz; omega
   ·refine List.pairwise_cons.2 ⟨fun z hz => ?_, ticked_up h2⟩
    rcases mem_ticked hz with e | hz
    ·omega
    ·exact h1 z hz
theorem ticked_le {x : La} (hx : x.t ≤ 1073741824) : ∀ {l : List La}, (∀ t ∈ l, t.t ≤ 1073741824) → ∀ t ∈ ticked x l, t.t ≤ 1073741824
 | [], _, t, ht => by simp only [ticked, List.mem_singleton] at ht; rw [ht]; exact hx
 | y :: l, h, t, ht => by
  have hy := h y List.mem_cons_self
  unfold ticked at ht
  split at ht
  ·rcases List.mem_cons.1 ht with rfl | ht
   ·show max y.t x.t ≤ _; omega
   ·exact h t (List.mem_cons_of_mem _ ht)
  ·split at ht
   ·rcases List.mem_cons.1 ht with rfl | ht
    ·exact hx
    ·exact h t ht
   ·rcases List.mem_cons.1 ht with rfl | ht
    ·exact hy
    ·exact ticked_le hx (fun t ht => h t (List.mem_cons_of_mem _ ht)) t ht
def maxO (a : Option Nat) (t : Nat) : Nat := max (a.getD 0) t
theorem tkOf_ticked {x : La} : ∀ {l : List La}, l.Pairwise (fun a b => a.c < b.c) → ∀ c, tkOf (ticked x l) c = if c = x.c then some (maxO (tkOf l c) x.t) else tkOf l c
 | [], _, c => by
  simp only [ticked, tkOf_cons, tkOf_nil]
  by_cases e : x.c = c
  ·simp [e, maxO]
  ·rw [if_neg e, if_neg (fun h => e h.symm)]
 | y :: l, h, c => by
  obtain ⟨h1, h2⟩ := List.pairwise_cons.1 h
  unfold ticked
  split
  ·rename_i ey
   rw [tkOf_cons]
   by_cases e : c = x.c
   ·subst e
    rw [if_pos rfl, if_pos rfl, tkOf_cons, if_pos ey]
    rfl
   ·rw [if_neg (fun h => e h.symm), if_neg e, tkOf_cons, if_neg (fun h => e (by omega))]
  ·rename_i ey
   split
   ·rename_i hlt
    rw [tkOf_cons x]
    by_cases e : c = x.c
    ·subst e
     rw [if_pos rfl, if_pos rfl, tkOf_none (l := y :: l) fun z hz => by rcases List.mem_cons.1 hz with rfl | hz; omega; have := h1 z hz; omega]
     simp [maxO]
    ·rw [if_neg (fun h => e h.symm), if_neg e]
   ·rw [tkOf_cons, tkOf_ticked h2 c, tkOf_cons]
    by_cases e : c = x.c
    ·subst e
     rw [if_neg ey, if_neg ey]
    ·rw [if_neg e, if_neg e]
theorem ticked_new {x : La} : ∀ {l : List La}, l.Pairwise (fun a b => a.c < b.c) → (∀ y ∈ l, y.c ≠ x.c) → ∀ {k : Nat}, l.countP (fun y => decide (y.c < x.c)) = k → l.take k ++ x :: l.drop k = ticked x l
 | [], _, _, k, hk => by simp [ticked]
 | y :: l, h, hn, k, hk => by
  obtain ⟨h1, h2⟩ := List.pairwise_cons.1 h
  have hy := hn y List.mem_cons_self
  by_cases ha : x.c < y.c
  ·have e0 : (y :: l).countP (fun y => decide (y.c < x.c)) = 0 := by
    rw [List.countP_eq_zero]
    intro z hz
    rw [decide_eq_true_eq]
    rcases List.mem_cons.1 hz with rfl | hz
    ·omega
    ·have := h1 z hz; omega
   rw [e0] at hk
   subst hk
   simp [ticked, hy, ha]
  ·rw [List.countP_cons_of_pos (by rw [decide_eq_true_eq]; omega)] at hk
   subst hk
   rw [List.take_succ_cons, List.drop_succ_cons, List.cons_append, ticked_new h2 (fun z hz => hn z (List.mem_cons_of_mem _ hz)) rfl]
   simp [ticked, hy, ha]
theorem ticked_old {x : La} : ∀ {l : List La}, l.Pairwise (fun a b => a.c < b.c) → (∃ y ∈ l, y.c = x.c) → ∀ {k : Nat}, l.countP (fun y => decide (y.c < x.c)) = k → ∃ y, l[k]? = some y ∧ y.c = x.c ∧ ∀ z : La, z.c = x.c → z.t = max y.t x.t → l.set k z = ticked x l
 | [], _, h, _, _ => by obtain ⟨y, h, _⟩ := h; simp at h
 | y :: l, h, hn, k, hk => by
  obtain ⟨h1, h2⟩ := List.pairwise_cons.1 h
  by_cases hy : y.c = x.c
  ·have e0 : (y :: l).countP (fun y => decide (y.c < x.c)) = 0 := by
    rw [List.countP_eq_zero]
    intro z hz
    rw [decide_eq_true_eq]
    rcases List.mem_cons.1 hz with rfl | hz
    ·omega
    ·have := h1 z hz; omega
   rw [e0] at hk
   subst hk
   refine ⟨y, rfl, hy, fun z hz ht => ?_⟩
   rw [List.set_cons_zero]
   unfold ticked
   rw [if_pos hy]
   congr 1
   exact La.ext' hz ht
  ·have hl : ∃ y ∈ l, y.c = x.c := by
    obtain ⟨z, hz, hzc⟩ := hn
    rcases List.mem_cons.1 hz with rfl | hz
    ·exact absurd hzc hy
    ·exact ⟨z, hz, hzc⟩
   have hlt : y.c < x.c := by obtain ⟨z, hz, hzc⟩ := hl; have := h1 z hz; omega
   rw [List.countP_cons_of_pos (by rw [decide_eq_true_eq]; omega)] at hk
   subst hk
   obtain ⟨z, hz1, hz2, hz3⟩ := ticked_old h2 hl rfl
   refine ⟨z, by simpa using hz1, hz2, fun u hu ht => ?_⟩
   rw [List.set_cons_succ, hz3 u hu ht]
   conv => rhs; unfold ticked
   rw [if_neg hy, if_neg (by omega)]
def hasE (l : List En) (x : En) : Bool := l.any fun e => decide (e.r = x.r ∧ e.s = x.s)
def Clash (a b : Sta) : Prop := ∃ x ∈ a.es, ∃ y ∈ b.es, x.r = y.r ∧ x.s = y.s ∧ x ≠ y
def keepA (b : Sta) (x : En) : Bool := hasE b.es x || !V.hasB b.v x.r x.s
def keepB (a : Sta) (x : En) : Bool := !V.hasB a.v x.r x.s
def bothE (a b : Sta) : List En := a.es.filter (keepA b) ++ b.es.filter (keepB a)
structure Merg (a b m : Sta) : Prop where
 v : m.v = V.join a.v b.v
 ord : m.es.Pairwise En.Ahead
 mem : ∀ e, e ∈ m.es ↔ e ∈ bothE a b
 up : m.ts.Pairwise fun a b => a.c < b.c
 tk : ∀ c, tkOf m.ts c = match tkOf a.ts c, tkOf b.ts c with
  | none, y => y
  | some x, none => some x
  | some x, some y => some (max x y)
end Go.Proofs.YtnekpgmgnepdoaaGreat
end
section
namespace Go.Proofs.YtnekpgmgnepdoaaGreat
open Go.RowKit
structure GL (w : World) (size : Nat) (a : Option Addr) (n : Nat) (vs : List (List Value)) : Prop where
 len : vs.length = n
 cells : n = 0 ∨ ∃ b off, a = some ⟨b, off, none⟩ ∧ ∀ i v, vs[i]? = some v → w.rangeAt b (off + i * size) v
structure OwnG (w : World) (e size B : Nat) (a : Option Addr) (n cap : Nat) (vs : List (List Value)) : Prop where
 row : w.ownsRow B e size (.slice a n cap) n vs.flatten
 each : ∀ v ∈ vs, v.length = size
 len : vs.length = n
def At (a : Option Addr) (k : Nat) : Prop := ∃ ad, a = some ad ∧ k = ad.block
def Lies (w : World) (a a' : Option Addr) : Prop := ∀ ad, a' = some ad → (∃ ad0, a = some ad0 ∧ ad.block = ad0.block) ∨ w.heap.size ≤ ad.block
theorem flatten_get {size : Nat} : ∀ {vs : List (List Value)}, (∀ v ∈ vs, v.length = size) → ∀ {i : Nat} {v : List Value}, vs[i]? = some v → ∀ {j : Nat} {u : Value}, v[j]? = some u → vs.flatten[i * size + j]? = some u
 | [], _, i, v, h, _, _, _ => by simp at h
 | x :: vs, hs, 0, v, h, j, u, hu => by
  obtain rfl : x = v := by simpa using h
  have hj : j < x.length := (List.getElem?_eq_some_iff.1 hu).1
  rw [List.flatten_cons, Nat.zero_mul, Nat.zero_add, List.getElem?_append_left hj]
  exact hu
 | x :: vs, hs, i + 1, v, h, j, u, hu => by
  have hx := hs x List.mem_cons_self
  rw [List.flatten_cons, List.getElem?_append_right (by rw [hx, Nat.add_mul]; omega), hx, show (i + 1) * size + j - size = i * size + j by rw [Nat.add_mul]; omega]
  exact flatten_get (fun v hv => hs v (List.mem_cons_of_mem _ hv)) (by simpa using h) hu
section
variable {w w' : World} {e size B n cap : Nat} {a : Option Addr} {vs : List (List Value)}
theorem OwnG.gl (h : OwnG w e size B a n cap vs) : GL w size a n vs := by
 refine ⟨h.len, ?_⟩
 rcases h.row.2 with ⟨_, hn⟩ | ⟨g, cap', cur, hv, hB, hg, hnc, hcm, hcs, htk⟩
 ·exact .inl hn
 ·cases hv
  refine .inr ⟨g, 0, rfl, fun i v hv j u hu => ?_⟩
  have e1 := flatten_get h.each hv hu
  have hi : i < n := by rw [← h.len]; exact (List.getElem?_eq_some_iff.1 hv).1
  have hj : j < size := by rw [← h.each v (List.mem_of_getElem? hv)]; exact (List.getElem?_eq_some_iff.1 hu).1
  have hlt : i * size + j < n * size := by
   have : (i + 1) * size ≤ n * size := Nat.mul_le_mul_right _ hi
   rw [Nat.add_mul] at this
   omega
  rw [← htk, List.getElem?_take_of_lt hlt] at e1
  simp only [World.cell?, hg, Nat.zero_add, Option.isSome_none, Bool.false_eq_true, if_false]
  rw [← Array.getElem?_toList]
  exact e1
theorem OwnG.lt (h : OwnG w e size B a n cap vs) : ∀ ad, a = some ad → B ≤ ad.block ∧ ad.block < w.heap.size := by
 rintro ad rfl
 exact World.ownsRow.lt h.row ad.block rfl
theorem OwnG.keep {S : Nat → Prop} (h : OwnG w e size B a n cap vs) (k : Kept S w w') (hn : ∀ ad, a = some ad → ¬ S ad.block) : OwnG w' e size B a n cap vs := by
 refine ⟨⟨h.row.1, ?_⟩, h.each, h.len⟩
 rcases h.row.2 with h0 | ⟨g, cap', cur, hv, hB, hg, rest⟩
 ·exact .inl h0
 ·refine .inr ⟨g, cap', cur, hv, hB, ?_, rest⟩
  rw [k.block g (Array.getElem?_eq_some_iff.1 hg).1 (hn ⟨g, 0, none⟩ (by injection hv))]
  exact hg
theorem OwnG.below (h : OwnG w e size B a n cap vs) (hb : Below w.heap.size w w') : OwnG w' e size B a n cap vs :=
 h.keep (S := fun _ => False) (.of_below hb) (fun _ _ h => h)
theorem OwnG.mono (h : OwnG w e size B a n cap vs) {B' : Nat} (hB : B' ≤ B) : OwnG w e size B' a n cap vs := by
 refine ⟨⟨h.row.1, ?_⟩, h.each, h.len⟩
 rcases h.row.2 with h0 | ⟨g, cap', cur, hv, hg, rest⟩
 ·exact .inl h0
 ·exact .inr ⟨g, cap', cur, hv, Nat.le_trans hB hg, rest⟩
theorem ownG_nil (w : World) (e size B : Nat) : OwnG w e size B none 0 0 [] := ⟨World.ownsRow_nil _ _ _ _, by simp, rfl⟩
theorem GL.below (h : GL w size a n vs) (hb : Below w.heap.size w w') : GL w' size a n vs := by
 refine ⟨h.len, ?_⟩
 rcases h.cells with h0 | ⟨b, off, ha, hc⟩
 ·exact .inl h0
 ·exact .inr ⟨b, off, ha, fun i v hv j u hu => below_at hb (hc i v hv j u hu)⟩
end
section
variable {ops : Array Oper} {rest : List Oper} {o : Oper} {act : Act} {Q : Exit → Act → World → Prop} {W : World}
theorem wpList_appendG (t e size bytes : Nat) {z : Value} (hinfo : (Tryz.prog.info? e).map (fun i => (i.zero, i.size, i.bytes)) = some (some z, size, bytes)) (ht : Tryz.prog.underlying t = some (.slice e)) (hzs : z.cells.size = size) (hsz : 0 < size) (hby : bytes ≤ 1000)
  {x y : Operand} {B n cap g : Nat} {a : Option Addr} {vs : List (List Value)} {cs : Array Value} (hgd : o.guard = none) (ho : o.op = .call { callee := .builtin .append, args := #[x, y], argTypes := #[t, t] })
  (hx : act.eval x = .slice a n cap) (hy : act.eval y = .slice (some ⟨g, 0, none⟩) 1 1) (hown : OwnG W e size B a n cap vs) (hg : Blk W g e cs) (hc : cs.size = size) (h1 : ∀ u ∈ cs.toList, u.oneCell' = true) (hn : n < 1000000000) (hB : B ≤ W.heap.size)
  (k : ∀ a' cap' w', OwnG w' e size B a' (n + 1) cap' (vs ++ [cs.toList]) → Kept (At a) W w' → Lies W a a' → wpList Tryz.prog ops Q rest (act.put o.dst (.slice a' (n + 1) cap')) w') : wpList Tryz.prog ops Q (o :: rest) act W := by
 obtain ⟨i0, hi, hz0, hz1, hz2⟩ := info_parts hinfo
 have hnb : (n + 1) * bytes ≤ 140737488355328 := by
  have : (n + 1) * bytes ≤ 1000000000 * 1000 := Nat.mul_le_mul (by omega) hby
  omega
 refine wpList_append_lies W hgd x y t ho B e i0 _ size bytes ht hi hz0 hz1 hz2 hzs hsz (.slice a n cap) n vs.flatten hx hown.row ⟨g, 0, none⟩ 1 1 cs.toList hy (by simp [hc])
  (World.news_of_block (cs := cs) (t := e) (fr := (0, 0)) hg) h1 (by omega) (by unfold maxLen; omega) hnb hB _ rfl ?_
 intro g' cap' w' h1' h2 h3 h4
 refine k _ _ _ ⟨by simpa using h1', ?_, by simp [hown.len]⟩ ⟨h2.os, h2.tape, h2.output, h2.size, fun k hk hn => h2.block k hk (fun e => hn ?_)⟩ ?_
 ·intro v hv
  rcases List.mem_append.1 hv with hv | hv
  ·exact hown.each v hv
  ·obtain rfl : v = cs.toList := by simpa using hv
   simp [hc]
 ·cases a with
  | none => simp [Value.ownBlock] at e
  | some ad => exact ⟨ad, rfl, by simpa [Value.ownBlock] using e⟩
 ·rintro ad rfl2
  obtain rfl := Option.some.inj rfl2
  rcases h3 with h3 | h3
  ·cases a with
   | none => simp [Value.ownBlock] at h3
   | some ad => exact .inl ⟨ad, rfl, by simpa [Value.ownBlock] using h3.symm⟩
  ·exact .inr (by simp [h3])
end
def cellsO (l : List O) : List (List Value) := l.map O.cs
abbrev OL (w : World) (a : Option Addr) (n : Nat) (l : List O) : Prop := GL w 23 a n (cellsO l)
abbrev OwnO (w : World) (B : Nat) (a : Option Addr) (n cap : Nat) (l : List O) : Prop := OwnG w 33 23 B a n cap (cellsO l)
theorem OL.len' {w : World} {a : Option Addr} {n : Nat} {l : List O} (h : OL w a n l) : l.length = n := by have := h.len; simpa [cellsO] using this
theorem und63 : Tryz.prog.underlying 63 = some (.slice 33) := Tryz.underlying63
theorem info33b : (Tryz.prog.info? 33).map (fun i => (i.zero, i.size, i.bytes)) = some (some (.agg O.zero.arr), 23, 84) := by rw [zero_oarr]; kernel_rfl
section
variable {ev : Operand → Value} {q : Oper} {w : World}
theorem exec_idxO {x y : Operand} {b off n cap i : Nat} {z : Int} (ho : q.op = .indexAddr 63 x y) (hx : ev x = .slice (some ⟨b, off, none⟩) n cap) (hy : ev y = .int .i64 z) (hz : z = (i : Int)) (hi : i < n) : (execOp ev q).run Tryz.prog w = .ok (.value (.pointer (some ⟨b, off + i * 23, none⟩))) w := by
 subst hz
 have u63 := und63
 have z33 : ∀ w, (Go.sizeOf 33).run Tryz.prog w = .ok 23 w := Tryz.sizeOf33
 unfold execOp
 simp only [ho, hx, hy]
 go_simp
theorem exec_ldO {x : Operand} {b off : Nat} {p : O} (ho : q.op = .load 33 x) (hx : ev x = .pointer (some ⟨b, off, none⟩)) (h : w.rangeAt b off p.cs) : (execOp ev q).run Tryz.prog w = .ok (.value (.agg p.arr)) w := by
 have hl := run_loadVar_mid (P := Tryz.prog) w b off 33 p.cs _ h Tryz.underlying33 rfl (by rw [p.cs_len]; exact size33)
 refine exec_cell ho hx ?_
 simp only [Instr.loadAt, Instr.sureAddr, Sem.run_bind, Sem.run_pure, Result.andThen_ok, hl]
theorem exec_alloc33z {z : O} (hz : O.zero = z) (ho : q.op = .alloc 33) : (execOp ev q).run Tryz.prog w = .ok (.value (.pointer (some ⟨w.heap.size, 0, none⟩))) (w.alloc (.cells z.arr 33)) := by
 subst hz; exact exec_alloc33 ho
end
theorem OL.at {w : World} {a : Option Addr} {n i : Nat} {l : List O} (h : OL w a n l) (hi : i < n) : ∃ b off x, a = some ⟨b, off, none⟩ ∧ l[i]? = some x ∧ w.rangeAt b (off + i * 23) x.cs := by
 have hl := h.len'
 rcases h.cells with h0 | ⟨b, off, ha, hc⟩
 ·omega
 ·have hi' : i < l.length := by omega
  exact ⟨b, off, l[i], ha, List.getElem?_eq_getElem hi', hc i _ (by simp [cellsO, hi'])⟩
end Go.Proofs.YtnekpgmgnepdoaaGreat
end
