/- Steps through a region that draws its order: a condition on the world stands all along, loads of vectors and plain operations are taken first, and each call keeps what was there. -/
import Derived.Test.YtjpmjidpdgikgaaMem
import Derived.Deep.RegionHeld3
import Derived.Deep.RegionWith
import Derived.StillTailTactics
namespace Go.Proofs.Ytjpmjidpdgikgaa
open Go.RowKit

/-- A value is answered; nothing that was there has turned. -/
def Says (v : Value) (w : World) (e : Ending) (w' : World) : Prop := e = .returned v ∧ Below w.heap.size w w'

theorem below_two (w : World) (o o' : Obj) : Below w.heap.size w ((w.alloc o).alloc o').drew := (((Below.refl _ _).alloc (Nat.le_refl _) _).alloc (by simp) _).drew
theorem below_two' (w : World) (o o' : Obj) : Below w.heap.size w ((w.alloc o).alloc o') := ((Below.refl _ _).alloc (Nat.le_refl _) _).alloc (by simp) _

section
variable {ops : Array Oper} {Q : Exit → Act → World → Prop} {S : World → Prop} {fuel : Nat} {listed : Array Bool} {a : Act} {w : World}

/-- An operation that yields a value in every world of S. -/
theorem held_take (i : Nat) (d : Tmp) {oi : Oper} (v : Value) (hd : oi.dst = some d) (hi : ops[i]? = some oi) (hs : Region.noSelect ops = true) (hf : Region.free .any ops listed i = true) (hr : (Region.ready .any ops listed).contains i = true)
    (hQ : ∀ c a w, Q (.panic c) (a.put (some d) v) w → Q (.panic c) a w) (hw : Region.wanted oi (yielded ops a.tmps) = true) (hy : ∀ w, S w → (execOp a.eval oi).run Try.prog w = .ok (.value v) w) (hS : S w)
    (h : wpAnyH Try.prog .any ops Q S fuel (listed.setIfInBounds i true) (a.put (some d) v) w) : wpAnyH Try.prog .any ops Q S (fuel + 1) listed a w :=
  wpAnyH_take hi hs hf hr (by rw [hd]; exact hQ) (.inl ⟨hw, hy⟩) hS (by rw [hd]; exact h)

/-- A guarded operation that is not wanted. -/
theorem held_skip (i : Nat) (d : Tmp) {oi : Oper} (hd : oi.dst = some d) (hi : ops[i]? = some oi) (hs : Region.noSelect ops = true) (hf : Region.free .any ops listed i = true) (hr : (Region.ready .any ops listed).contains i = true)
    (hQ : ∀ c a w, Q (.panic c) (a.put (some d) undef) w → Q (.panic c) a w) (hw : Region.wanted oi (yielded ops a.tmps) = false) (hS : S w)
    (h : wpAnyH Try.prog .any ops Q S fuel (listed.setIfInBounds i true) (a.put (some d) undef) w) : wpAnyH Try.prog .any ops Q S (fuel + 1) listed a w :=
  wpAnyH_take hi hs hf hr (by rw [hd]; exact hQ) (.inr ⟨hw, rfl⟩) hS (by rw [hd]; exact h)

/-- A call that keeps what was there. -/
theorem held_call (i : Nat) (d : Tmp) {oi : Oper} (f : FuncId) (args : Array Value) (v : Value) (hd : oi.dst = some d) (hr : Region.ready .any ops listed = [i]) (hi : ops[i]? = some oi) (hw : Region.wanted oi (yielded ops a.tmps) = true)
    (hrun : (execOp a.eval oi).run Try.prog w = .ok (.enter f args) w) (hc : Calls Try.prog f args w (Says v w)) (hm : ∀ w', S w → Below w.heap.size w w' → S w') (hS : S w)
    (h : ∀ w', S w' → wpAnyH Try.prog .any ops Q S fuel (listed.setIfInBounds i true) (a.put (some d) v) w') : wpAnyH Try.prog .any ops Q S (fuel + 1) listed a w := by
  refine wpAnyH_ready (rs := [i]) hr (by simp) (AllReadyH.cons hi (fun K hK => ?_) AllReadyH.nil)
  rw [if_pos hw]
  unfold Oper.wp
  rw [hrun, Oper.upon_enter]
  refine hc.mono fun e w' hh => ?_
  obtain ⟨rfl, hb⟩ := hh
  exact hK.out _ _ (hm w' hS hb) (fun hS' => by rw [hd]; exact h w' hS')
/-- A call, whatever its contract. -/
theorem held_callP (i : Nat) (d : Tmp) {oi : Oper} (f : FuncId) (args : Array Value) {R : Ending → World → Prop} (hd : oi.dst = some d) (hr : Region.ready .any ops listed = [i]) (hi : ops[i]? = some oi) (hw : Region.wanted oi (yielded ops a.tmps) = true)
    (hrun : (execOp a.eval oi).run Try.prog w = .ok (.enter f args) w) (hc : Calls Try.prog f args w R)
    (h : ∀ e w', R e w' → ∃ v, e = .returned v ∧ S w' ∧ (S w' → wpAnyH Try.prog .any ops Q S fuel (listed.setIfInBounds i true) (a.put (some d) v) w')) : wpAnyH Try.prog .any ops Q S (fuel + 1) listed a w := by
  refine wpAnyH_ready (rs := [i]) hr (by simp) (AllReadyH.cons hi (fun K hK => ?_) AllReadyH.nil)
  rw [if_pos hw]
  unfold Oper.wp
  rw [hrun, Oper.upon_enter]
  refine hc.mono fun e w' hh => ?_
  obtain ⟨v, rfl, hS, hk⟩ := h e w' hh
  exact hK.out _ _ hS (fun hS' => by rw [hd]; exact hk hS')
theorem held_run (i : Nat) (d : Tmp) {oi : Oper} (v : Value) (hd : oi.dst = some d) (hi : ops[i]? = some oi) (hr : Region.ready .any ops listed = [i]) (hw : Region.wanted oi (yielded ops a.tmps) = true)
    (hy : (execOp a.eval oi).run Try.prog w = .ok (.value v) w) (hS : S w)
    (h : wpAnyH Try.prog .any ops Q S fuel (listed.setIfInBounds i true) (a.put (some d) v) w) : wpAnyH Try.prog .any ops Q S (fuel + 1) listed a w := by
  refine wpAnyH_ready (rs := [i]) hr (by simp) (AllReadyH.cons hi (fun K hK => ?_) AllReadyH.nil)
  rw [if_pos hw]
  unfold Oper.wp
  rw [hy]
  exact hK.out _ _ hS (fun _ => by rw [hd]; exact h)
end


theorem exec_eqlB {ev : Operand → Value} {o : Oper} {x y : Operand} {u t : TypeId} {a b r : Bool} {w : World} (hu : Try.prog.underlying u = some .bool) (ho : o.op = .binOp .eql u x y t) (hx : ev x = .bool a) (hy : ev y = .bool b) (hr : (a == b) = r) : (execOp ev o).run Try.prog w = .ok (.value (.bool r)) w := by
  subst hr
  unfold execOp
  simp [ho, hx, hy, eqGuard, binOp, run_equal_bool w u a b hu]
theorem exec_neqB {ev : Operand → Value} {o : Oper} {x y : Operand} {u t : TypeId} {a b r : Bool} {w : World} (hu : Try.prog.underlying u = some .bool) (ho : o.op = .binOp .neq u x y t) (hx : ev x = .bool a) (hy : ev y = .bool b) (hr : (a != b) = r) : (execOp ev o).run Try.prog w = .ok (.value (.bool r)) w := by
  subst hr
  unfold execOp
  simp [ho, hx, hy, eqGuard, binOp, run_equal_bool w u a b hu, bne]
theorem exec_eqlI {ev : Operand → Value} {o : Oper} {x y : Operand} {u t : TypeId} {k : IntKind} {a b : Int} {r : Bool} {w : World} (_hu : True) (ho : o.op = .binOp .eql u x y t) (hx : ev x = .int k a) (hy : ev y = .int k b) (hr : (a == b) = r) : (execOp ev o).run Try.prog w = .ok (.value (.bool r)) w := by
  subst hr
  unfold execOp
  simp [ho, hx, hy, eqGuard, binOp, Op.intCmp]
theorem exec_neqI {ev : Operand → Value} {o : Oper} {x y : Operand} {u t : TypeId} {k : IntKind} {a b : Int} {r : Bool} {w : World} (_hu : True) (ho : o.op = .binOp .neq u x y t) (hx : ev x = .int k a) (hy : ev y = .int k b) (hr : (a != b) = r) : (execOp ev o).run Try.prog w = .ok (.value (.bool r)) w := by
  subst hr
  unfold execOp
  simp [ho, hx, hy, eqGuard, binOp, Op.intCmp]


end Go.Proofs.Ytjpmjidpdgikgaa
