/- Walks of Join and Meet, the program's and the document's: they answer the greater, and the smaller, number at each index, and turn nothing that was there. Steps through a region that draws its order: a condition on the world stands all along, loads of vectors and plain operations are taken first, and each call keeps what was there. -/
import Derived.Test.YtfnaccmgmocolaaDoorArr
import Derived.Deep.RegionHeld3
import Derived.Deep.RegionWith
import Derived.StillTailTactics
namespace Go.Proofs.YtfnaccmgmocolaaDoor
open Go.RowKit

/-- A vector is answered; nothing that was there has turned. -/
def Gives (v : V) (w : World) (e : Ending) (w' : World) : Prop := e = .returned (.agg v.arr) ∧ Below w.heap.size w w'

theorem max_cast (x y : Nat) : (if (x : Int) < (y : Int) then (y : Int) else (x : Int)) = ((max x y : Nat) : Int) := by split <;> omega
theorem min_cast (x y : Nat) : (if (y : Int) < (x : Int) then (y : Int) else (x : Int)) = ((min x y : Nat) : Int) := by split <;> omega

/-- Three blocks that a call made: two vectors and an answer. -/
structure Three (w W : World) (x b : V) : Prop where
  one : Blk W w.heap.size 27 x.arr
  two : Blk W (w.heap.size + 1) 27 b.arr
  ans : Blk W (w.heap.size + 2) 27 V.zero.arr
  old : Below w.heap.size w W

theorem three_new (w : World) (a b : V) : Three w (((w.alloc (.cells a.arr 27)).alloc (.cells b.arr 27)).alloc (.cells V.zero.arr 27)) a b := by
  have h1 := Blk.new w 27 a.arr
  have h2 := Blk.new (w.alloc (.cells a.arr 27)) 27 b.arr
  have h3 := Blk.new ((w.alloc (.cells a.arr 27)).alloc (.cells b.arr 27)) 27 V.zero.arr
  have k2 := Kept.alloc (fun _ => False) (w.alloc (.cells a.arr 27)) (.cells b.arr 27)
  have k3 := Kept.alloc (fun _ => False) ((w.alloc (.cells a.arr 27)).alloc (.cells b.arr 27)) (.cells V.zero.arr 27)
  simp only [World.size_alloc] at h2 h3
  exact ⟨(h1.kept k2 (fun h => h)).kept k3 (fun h => h), h2.kept k3 (fun h => h), h3, (below_two' _ _ _).alloc (by simp; omega) _⟩

theorem Three.put {w W : World} {x b : V} (h : Three w W x b) {k s : Nat} (hk : k < 16) (hs : s < 4294967296) : Three w (W.setCell ⟨w.heap.size, k, none⟩ (.int .u32 (s : Int))) (x.put k s) b := by
  have k1 := Kept.setCell W ⟨w.heap.size, k, none⟩ (.int .u32 (s : Int))
  refine ⟨?_, h.two.kept k1 (by simp), h.ans.kept k1 (by simp), h.old.setCell (by simp) _⟩
  have := h.one.set k (.int .u32 (s : Int))
  rwa [V.arr_put x hk hs] at this

theorem Three.drew {w W : World} {x b : V} (h : Three w W x b) : Three w W.drew x b := ⟨h.one, h.two, h.ans, h.old.drew⟩

theorem Three.ret {w W : World} {x b : V} (h : Three w W x b) {ds : Array Value} : Below w.heap.size w (W.setRow (w.heap.size + 1 + 1) ds) :=
  ((Kept.of_below (S := fun k => k = w.heap.size + 1 + 1) h.old).trans (Kept.setRow _ _ _) (fun _ h => .inl h)).below (Nat.le_refl _) (fun k hk => by omega)


end Go.Proofs.YtfnaccmgmocolaaDoor

namespace Go.Proofs.YtfnaccmgmocolaaDoor
open Go.RowKit

/-- A value is answered; nothing that was there has turned. -/
def Says (v : Value) (w : World) (e : Ending) (w' : World) : Prop := e = .returned v ∧ Below w.heap.size w w'

section
variable {ops : Array Oper} {Q : Exit → Act → World → Prop} {S : World → Prop} {fuel : Nat} {listed : Array Bool} {a : Act} {w : World}

/-- An operation that yields a value in every world of S. -/
theorem held_take (i : Nat) (d : Tmp) {oi : Oper} (v : Value) (hd : oi.dst = some d) (hi : ops[i]? = some oi) (hs : Region.noSelect ops = true) (hf : Region.free .any ops listed i = true) (hr : (Region.ready .any ops listed).contains i = true)
    (hQ : ∀ c a w, Q (.panic c) (a.put (some d) v) w → Q (.panic c) a w) (hw : Region.wanted oi (yielded ops a.tmps) = true) (hy : ∀ w, S w → (execOp a.eval oi).run Tryd.prog w = .ok (.value v) w) (hS : S w)
    (h : wpAnyH Tryd.prog .any ops Q S fuel (listed.setIfInBounds i true) (a.put (some d) v) w) : wpAnyH Tryd.prog .any ops Q S (fuel + 1) listed a w :=
  wpAnyH_take hi hs hf hr (by rw [hd]; exact hQ) (.inl ⟨hw, hy⟩) hS (by rw [hd]; exact h)

/-- A guarded operation that is not wanted. -/
theorem held_skip (i : Nat) (d : Tmp) {oi : Oper} (hd : oi.dst = some d) (hi : ops[i]? = some oi) (hs : Region.noSelect ops = true) (hf : Region.free .any ops listed i = true) (hr : (Region.ready .any ops listed).contains i = true)
    (hQ : ∀ c a w, Q (.panic c) (a.put (some d) undef) w → Q (.panic c) a w) (hw : Region.wanted oi (yielded ops a.tmps) = false) (hS : S w)
    (h : wpAnyH Tryd.prog .any ops Q S fuel (listed.setIfInBounds i true) (a.put (some d) undef) w) : wpAnyH Tryd.prog .any ops Q S (fuel + 1) listed a w :=
  wpAnyH_take hi hs hf hr (by rw [hd]; exact hQ) (.inr ⟨hw, rfl⟩) hS (by rw [hd]; exact h)

/-- A call that keeps what was there. -/
theorem held_call (i : Nat) (d : Tmp) {oi : Oper} (f : FuncId) (args : Array Value) (v : Value) (hd : oi.dst = some d) (hr : Region.ready .any ops listed = [i]) (hi : ops[i]? = some oi) (hw : Region.wanted oi (yielded ops a.tmps) = true)
    (hrun : (execOp a.eval oi).run Tryd.prog w = .ok (.enter f args) w) (hc : Calls Tryd.prog f args w (Says v w)) (hm : ∀ w', S w → Below w.heap.size w w' → S w') (hS : S w)
    (h : ∀ w', S w' → wpAnyH Tryd.prog .any ops Q S fuel (listed.setIfInBounds i true) (a.put (some d) v) w') : wpAnyH Tryd.prog .any ops Q S (fuel + 1) listed a w := by
  refine wpAnyH_ready (rs := [i]) hr (by simp) (AllReadyH.cons hi (fun K hK => ?_) AllReadyH.nil)
  rw [if_pos hw]
  unfold Oper.wp
  rw [hrun, Oper.upon_enter]
  refine hc.mono fun e w' hh => ?_
  obtain ⟨rfl, hb⟩ := hh
  exact hK.out _ _ (hm w' hS hb) (fun hS' => by rw [hd]; exact h w' hS')
end

theorem exec_load27 {ev : Operand → Value} {o : Oper} {x : Operand} {g : Nat} {v : V} {w : World} (ho : o.op = .load 27 x) (hx : ev x = .pointer (some ⟨g, 0, none⟩)) (h : Blk w g 27 v.arr) : (execOp ev o).run Tryd.prog w = .ok (.value (.agg v.arr)) w := by
  unfold execOp
  simp only [ho, hx, Sem.run_bind, load27 h, Result.andThen_ok]
  rfl

theorem exec_eql27 {ev : Operand → Value} {o : Oper} {x y : Operand} {t : TypeId} {a b : V} {w : World} {r : Bool} (ho : o.op = .binOp .eql 27 x y t) (hx : ev x = .agg a.arr) (hy : ev y = .agg b.arr) (hr : V.eqB a b = r) : (execOp ev o).run Tryd.prog w = .ok (.value (.bool r)) w := by
  unfold execOp
  simp only [ho, hx, hy, Sem.run_bind, guard27, eql27, Result.andThen_ok, hr]
  rfl
theorem exec_neq27 {ev : Operand → Value} {o : Oper} {x y : Operand} {t : TypeId} {a b : V} {w : World} {r : Bool} (ho : o.op = .binOp .neq 27 x y t) (hx : ev x = .agg a.arr) (hy : ev y = .agg b.arr) (hr : (!V.eqB a b) = r) : (execOp ev o).run Tryd.prog w = .ok (.value (.bool r)) w := by
  unfold execOp
  simp only [ho, hx, hy, Sem.run_bind, guard27, neq27, Result.andThen_ok, hr]
  rfl

theorem exec_eqlB {ev : Operand → Value} {o : Oper} {x y : Operand} {u t : TypeId} {a b r : Bool} {w : World} (hu : Tryd.prog.underlying u = some .bool) (ho : o.op = .binOp .eql u x y t) (hx : ev x = .bool a) (hy : ev y = .bool b) (hr : (a == b) = r) : (execOp ev o).run Tryd.prog w = .ok (.value (.bool r)) w := by
  subst hr
  unfold execOp
  simp [ho, hx, hy, eqGuard, binOp, run_equal_bool w u a b hu]
theorem exec_neqB {ev : Operand → Value} {o : Oper} {x y : Operand} {u t : TypeId} {a b r : Bool} {w : World} (hu : Tryd.prog.underlying u = some .bool) (ho : o.op = .binOp .neq u x y t) (hx : ev x = .bool a) (hy : ev y = .bool b) (hr : (a != b) = r) : (execOp ev o).run Tryd.prog w = .ok (.value (.bool r)) w := by
  subst hr
  unfold execOp
  simp [ho, hx, hy, eqGuard, binOp, run_equal_bool w u a b hu, bne]
theorem exec_eqlI {ev : Operand → Value} {o : Oper} {x y : Operand} {u t : TypeId} {k : IntKind} {a b : Int} {r : Bool} {w : World} (_hu : True) (ho : o.op = .binOp .eql u x y t) (hx : ev x = .int k a) (hy : ev y = .int k b) (hr : (a == b) = r) : (execOp ev o).run Tryd.prog w = .ok (.value (.bool r)) w := by
  subst hr
  unfold execOp
  simp [ho, hx, hy, eqGuard, binOp, Op.intCmp]
theorem exec_neqI {ev : Operand → Value} {o : Oper} {x y : Operand} {u t : TypeId} {k : IntKind} {a b : Int} {r : Bool} {w : World} (_hu : True) (ho : o.op = .binOp .neq u x y t) (hx : ev x = .int k a) (hy : ev y = .int k b) (hr : (a != b) = r) : (execOp ev o).run Tryd.prog w = .ok (.value (.bool r)) w := by
  subst hr
  unfold execOp
  simp [ho, hx, hy, eqGuard, binOp, Op.intCmp]
theorem exec_load24 {ev : Operand → Value} {o : Oper} {x : Operand} {g : Nat} {r s : Value} {w : World} (ho : o.op = .load 24 x) (hx : ev x = .pointer (some ⟨g, 0, none⟩)) (h : Blk w g 24 #[r, s]) : (execOp ev o).run Tryd.prog w = .ok (.value (.agg #[r, s])) w := by
  have hl := run_loadVar_mid (P := Tryd.prog) w g 0 24 [r, s] _ (by
    intro j u hu
    rw [Nat.zero_add, h.cell]
    simpa using hu) Tryd.underlying24 rfl (by kernel_rfl)
  unfold execOp
  simp only [ho, hx, Instr.loadAt, Instr.sureAddr, Sem.run_bind, Sem.run_pure, Result.andThen_ok, hl]

/-- Two blocks that a call made. -/
structure Two (w W : World) (a b : V) : Prop where
  one : Blk W w.heap.size 27 a.arr
  two : Blk W (w.heap.size + 1) 27 b.arr
  old : Below w.heap.size w W

theorem two_new (w : World) (a b : V) : Two w ((w.alloc (.cells a.arr 27)).alloc (.cells b.arr 27)) a b := by
  have h1 := Blk.new w 27 a.arr
  have h2 := Blk.new (w.alloc (.cells a.arr 27)) 27 b.arr
  have k2 := Kept.alloc (fun _ => False) (w.alloc (.cells a.arr 27)) (.cells b.arr 27)
  simp only [World.size_alloc] at h2
  exact ⟨h1.kept k2 (fun h => h), h2, below_two' _ _ _⟩

theorem Two.below {w W W' : World} {a b : V} (h : Two w W a b) (hb : Below W.heap.size W W') : Two w W' a b :=
  ⟨h.one.below hb, h.two.below hb, h.old.trans (hb.mono h.old.size)⟩

theorem Two.drew {w W : World} {a b : V} (h : Two w W a b) : Two w W.drew a b := ⟨h.one, h.two, h.old.drew⟩


end Go.Proofs.YtfnaccmgmocolaaDoor
