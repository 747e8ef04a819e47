/- More steps through a region that draws its order: calls whatever their contract, operations that make memory, loads out of the midst of a block. -/
import Derived.Test.YtjpmjidpdgikgaaHeld
namespace Go.Proofs.Ytjpmjidpdgikgaa
open Go.RowKit

theorem exec_str {ev : Operand → Value} {o : Oper} {x : Operand} {a : Option Addr} {l c : Nat} {s : ByteArray} {w : World} (ho : o.op = .convert 23 9 x) (hx : ev x = .slice a l c) (h : (convert 23 9 (.slice a l c)).run Try.prog w = .ok (.string s) w) : (execOp ev o).run Try.prog w = .ok (.value (.string s)) w := by
  unfold execOp
  simp only [ho, hx, Sem.run_bind, h, Result.andThen_ok]
  rfl
theorem exec_neqS {ev : Operand → Value} {o : Oper} {x y : Operand} {t : TypeId} {a b : ByteArray} {r : Bool} {w : World} (ho : o.op = .binOp .neq 9 x y t) (hx : ev x = .string a) (hy : ev y = .string b) (hr : (!(a.toList == b.toList)) = r) : (execOp ev o).run Try.prog w = .ok (.value (.bool r)) w := by
  subst hr
  unfold execOp
  simp [ho, hx, hy, eqGuard, binOp_string_neq]
theorem exec_eqlS {ev : Operand → Value} {o : Oper} {x y : Operand} {t : TypeId} {a b : ByteArray} {r : Bool} {w : World} (ho : o.op = .binOp .eql 9 x y t) (hx : ev x = .string a) (hy : ev y = .string b) (hr : (a.toList == b.toList) = r) : (execOp ev o).run Try.prog w = .ok (.value (.bool r)) w := by
  subst hr
  unfold execOp
  simp [ho, hx, hy, eqGuard, binOp_string_eql]

section
variable {ops : Array Oper} {Q : Exit → Act → World → Prop} {S : World → Prop} {fuel : Nat} {listed : Array Bool} {a : Act} {w : World}
/-- A call that turns nothing at all. -/
theorem held_pure (i : Nat) (d : Tmp) {oi : Oper} (f : FuncId) (args : Array Value) (v : Value) (hd : oi.dst = some d) (hr : Region.ready .any ops listed = [i]) (hi : ops[i]? = some oi) (hw : Region.wanted oi (yielded ops a.tmps) = true)
    (hrun : (execOp a.eval oi).run Try.prog w = .ok (.enter f args) w) (hc : Calls Try.prog f args w fun e w' => e = .returned v ∧ w = w') (hS : S w)
    (h : wpAnyH Try.prog .any ops Q S fuel (listed.setIfInBounds i true) (a.put (some d) v) w) : wpAnyH Try.prog .any ops Q S (fuel + 1) listed a w :=
  held_callP i d f args hd hr hi hw hrun hc fun _ _ ⟨he, hw'⟩ => ⟨v, he, hw' ▸ hS, fun _ => hw' ▸ h⟩
/-- An operation that yields its value and leaves a world. -/
theorem held_exec (i : Nat) (d : Tmp) {oi : Oper} (v : Value) {w2 : World} (hd : oi.dst = some d) (hi : ops[i]? = some oi) (hr : Region.ready .any ops listed = [i]) (hw : Region.wanted oi (yielded ops a.tmps) = true)
    (hy : (execOp a.eval oi).run Try.prog w = .ok (.value v) w2) (hS : S w2)
    (h : wpAnyH Try.prog .any ops Q S fuel (listed.setIfInBounds i true) (a.put (some d) v) w2) : wpAnyH Try.prog .any ops Q S (fuel + 1) listed a w := by
  refine wpAnyH_ready (rs := [i]) hr (by simp) (AllReadyH.cons hi (fun K hK => ?_) AllReadyH.nil)
  rw [if_pos hw]
  unfold Oper.wp
  rw [hy]
  exact hK.out _ _ hS (fun _ => by rw [hd]; exact h)
/-- One that has no place for its value. -/
theorem held_do (i : Nat) {oi : Oper} (v : Value) {w2 : World} (hd : oi.dst = none) (hi : ops[i]? = some oi) (hr : Region.ready .any ops listed = [i]) (hw : Region.wanted oi (yielded ops a.tmps) = true)
    (hy : (execOp a.eval oi).run Try.prog w = .ok (.value v) w2) (hS : S w2)
    (h : wpAnyH Try.prog .any ops Q S fuel (listed.setIfInBounds i true) a w2) : wpAnyH Try.prog .any ops Q S (fuel + 1) listed a w := by
  refine wpAnyH_ready (rs := [i]) hr (by simp) (AllReadyH.cons hi (fun K hK => ?_) AllReadyH.nil)
  rw [if_pos hw]
  unfold Oper.wp
  rw [hy]
  exact hK.out _ _ hS (fun _ => by rw [hd]; exact h)
/-- One that yields nothing. -/
theorem held_void (i : Nat) {oi : Oper} {w2 : World} (hd : oi.dst = none) (hi : ops[i]? = some oi) (hr : Region.ready .any ops listed = [i]) (hw : Region.wanted oi (yielded ops a.tmps) = true)
    (hy : (execOp a.eval oi).run Try.prog w = .ok .skip w2) (hS : S w2)
    (h : wpAnyH Try.prog .any ops Q S fuel (listed.setIfInBounds i true) a w2) : wpAnyH Try.prog .any ops Q S (fuel + 1) listed a w := by
  refine wpAnyH_ready (rs := [i]) hr (by simp) (AllReadyH.cons hi (fun K hK => ?_) AllReadyH.nil)
  rw [if_pos hw]
  unfold Oper.wp
  rw [hy]
  exact hK.out _ _ hS (fun _ => by rw [hd]; exact h)
end

section
variable {ops : Array Oper} {Q : Exit → Act → World → Prop} {S : World → Prop} {fuel : Nat} {listed : Array Bool} {a : Act} {w : World} {rs : List Nat}
/-- One of several that may come next: a call. -/
theorem br_callP (i : Nat) (d : Tmp) {oi : Oper} (f : FuncId) (args : Array Value) {R : Ending → World → Prop} (hd : oi.dst = some d) (hi : ops[i]? = some oi) (hw : Region.wanted oi (yielded ops a.tmps) = true)
    (hrun : (execOp a.eval oi).run Try.prog w = .ok (.enter f args) w) (hc : Calls Try.prog f args w R)
    (h : ∀ e w', R e w' → ∃ v, e = .returned v ∧ S w' ∧ (S w' → wpAnyH Try.prog .any ops Q S fuel (listed.setIfInBounds i true) (a.put (some d) v) w')) (hs : AllReadyH Try.prog .any ops Q S fuel listed a w rs) : AllReadyH Try.prog .any ops Q S fuel listed a w (i :: rs) := by
  refine AllReadyH.cons hi (fun K hK => ?_) hs
  rw [if_pos hw]
  unfold Oper.wp
  rw [hrun, Oper.upon_enter]
  refine hc.mono fun e w' hh => ?_
  obtain ⟨v, rfl, hS, hk⟩ := h e w' hh
  exact hK.out _ _ hS (fun hS' => by rw [hd]; exact hk hS')
/-- An operation. -/
theorem br_exec (i : Nat) (d : Tmp) {oi : Oper} (v : Value) {w2 : World} (hd : oi.dst = some d) (hi : ops[i]? = some oi) (hw : Region.wanted oi (yielded ops a.tmps) = true)
    (hy : (execOp a.eval oi).run Try.prog w = .ok (.value v) w2) (hS : S w2)
    (h : wpAnyH Try.prog .any ops Q S fuel (listed.setIfInBounds i true) (a.put (some d) v) w2) (hs : AllReadyH Try.prog .any ops Q S fuel listed a w rs) : AllReadyH Try.prog .any ops Q S fuel listed a w (i :: rs) := by
  refine AllReadyH.cons hi (fun K hK => ?_) hs
  rw [if_pos hw]
  unfold Oper.wp
  rw [hy]
  exact hK.out _ _ hS (fun _ => by rw [hd]; exact h)
end

section
variable {ops : Array Oper} {rest : List Oper} {o : Oper} {act : Act} {Q : Exit → Act → World → Prop} {W W2 : World}
/-- An operation of a walk whose run is known. -/
theorem wpList_run {v : Value} (hgd : o.guard = none) (hrun : (execOp act.eval o).run Try.prog W = .ok (.value v) W2)
    (k : wpList Try.prog ops Q rest (act.put o.dst v) W2) : wpList Try.prog ops Q (o :: rest) act W :=
  wpList_plain hgd fun _ hK => by
    unfold Oper.wp
    rw [hrun]
    exact hK _ _ k
theorem wpList_void (hgd : o.guard = none) (hd : o.dst = none) (hrun : (execOp act.eval o).run Try.prog W = .ok .skip W2)
    (k : wpList Try.prog ops Q rest act W2) : wpList Try.prog ops Q (o :: rest) act W :=
  wpList_plain hgd fun _ hK => by
    unfold Oper.wp
    rw [hrun]
    refine hK _ _ ?_
    rw [hd]
    exact k
end

/-- A load of one cell. -/
theorem exec_cell {ev : Operand → Value} {o : Oper} {x : Operand} {t : TypeId} {p : Addr} {v : Value} {w : World} (ho : o.op = .load t x) (hx : ev x = .pointer (some p)) (h : (Instr.loadAt t (.pointer (some p))).run Try.prog w = .ok v w) : (execOp ev o).run Try.prog w = .ok (.value v) w := by
  unfold execOp
  simp only [ho, hx, Sem.run_bind, h, Result.andThen_ok]
  rfl

theorem load_cell {w : World} {p : Addr} {v : Value} {t : TypeId} (hagg : (isAgg t).run Try.prog w = .ok false w) (h : w.cell? p = some v) : (Instr.loadAt t (.pointer (some p))).run Try.prog w = .ok v w := by
  simp [Instr.loadAt, Instr.sureAddr, loadVar, hagg, h, Sem.run_bind]

end Go.Proofs.Ytjpmjidpdgikgaa
