/- A vector laid down at a new block, and the walk past it. -/
import Derived.Test.YtmibfbbkjejkmaaHx
namespace Go.Proofs.Ytmibfbbkjejkmaa
open Go.RowKit

section
variable {ops : Array Oper} {rest : List Oper} {o : Oper} {act : Act} {Q : Exit → Act → World → Prop} {W : World}

theorem wpList_load25w {g : Nat} {v : V} {x : Operand} (hw : Region.wanted o (yielded ops act.tmps) = true) (ho : o.op = .load 25 x) (hx : act.eval x = .pointer (some ⟨g, 0, none⟩)) (h : Blk W g 25 v.arr)
    (k : wpList Try.prog ops Q rest (act.put o.dst (.agg v.arr)) W) : wpList Try.prog ops Q (o :: rest) act W :=
  BigFrame.wpList_want hw fun K hK => by
    unfold Oper.wp
    rw [exec_load25 ho hx h]
    exact hK _ _ k

theorem wpList_build25 {v : V} (x y : Int) (hb : ∀ w : World, (Instr.build 25 #[(0, .int .u32 x), (1, .int .u32 y)]).run Try.prog w = .ok (.agg v.arr) w) (hw : Region.wanted o (yielded ops act.tmps) = true) (ho : o.op = .build 25 #[(0, .const (.int .u32 x)), (1, .const (.int .u32 y))])
    (k : wpList Try.prog ops Q rest (act.put o.dst (.agg v.arr)) W) : wpList Try.prog ops Q (o :: rest) act W :=
  BigFrame.wpList_want hw fun K hK => by
    have h1 : (#[((0 : Nat), Operand.const (.int .u32 x)), (1, .const (.int .u32 y))]).map (fun (i, x) => (i, act.eval x)) = #[(0, .int .u32 x), (1, .int .u32 y)] := by simp [Act.eval]
    unfold Oper.wp execOp
    simp only [ho, h1, Sem.run_bind, hb, Result.andThen_ok]
    exact hK _ _ k

theorem wpList_alloc25 {z : V} (hz : V.zero = z) (hgd : o.guard = none) (ho : o.op = .alloc 25)
    (k : wpList Try.prog ops Q rest (act.put o.dst (.pointer (some ⟨W.heap.size, 0, none⟩))) (W.alloc (.cells z.arr 25))) : wpList Try.prog ops Q (o :: rest) act W :=
  wpList_plain hgd fun K hK => by
    subst hz
    unfold Oper.wp execOp
    simp only [ho, Sem.run_bind, alloc25, Result.andThen_ok]
    exact hK _ _ k

theorem wpList_eql25 {x y : Operand} {t : TypeId} {a b : V} (r : Bool) (hw : Region.wanted o (yielded ops act.tmps) = true) (ho : o.op = .binOp .eql 25 x y t) (hx : act.eval x = .agg a.arr) (hy : act.eval y = .agg b.arr) (hr : V.eqB a b = r)
    (k : wpList Try.prog ops Q rest (act.put o.dst (.bool r)) W) : wpList Try.prog ops Q (o :: rest) act W :=
  BigFrame.wpList_want hw fun K hK => by
    unfold Oper.wp
    rw [exec_eql25 ho hx hy hr]
    exact hK _ _ k
end

/-- The walk stands still here. -/
structure Halt_ (p : Prop) : Prop where
  out : p
/-- The walk stands still at a store of a vector. -/
theorem wpList_stop {ops : Array Oper} {rest : List Oper} {o : Oper} {act : Act} {Q : Exit → Act → World → Prop} {W : World} {x y : Operand} (_ho : o.op = .store 25 x y) (k : Halt_ (wpList Try.prog ops Q (o :: rest) act W)) : wpList Try.prog ops Q (o :: rest) act W := k.out

/-! A vector laid down at a new block. -/
theorem laid_blk (w : World) (z v : V) : Blk ((w.alloc (.cells z.arr 25)).setRow w.heap.size v.arr) w.heap.size 25 v.arr := (Blk.new w 25 z.arr).row
theorem laid_old (w : World) (z v : V) : Below w.heap.size w ((w.alloc (.cells z.arr 25)).setRow w.heap.size v.arr) :=
  (below_one w _).trans ((Kept.setRow (w.alloc (.cells z.arr 25)) w.heap.size v.arr).below (by simp) (fun k hk => by omega))

theorem two_laid (w : World) (z a b : V) : Two w ((((w.alloc (.cells z.arr 25)).alloc (.cells z.arr 25)).setRow w.heap.size a.arr).setRow (w.heap.size + 1) b.arr) a b := by
  have h := two_new w z z
  have k1 := Kept.setRow ((w.alloc (.cells z.arr 25)).alloc (.cells z.arr 25)) w.heap.size a.arr
  have k2 := Kept.setRow (((w.alloc (.cells z.arr 25)).alloc (.cells z.arr 25)).setRow w.heap.size a.arr) (w.heap.size + 1) b.arr
  refine ⟨(h.one.row).kept k2 (by omega), (h.two.kept k1 (by omega)).row, (h.old.trans (k1.below h.old.size (fun k hk => by omega))).trans (k2.below (Nat.le_trans h.old.size k1.size) (fun k hk => by omega))⟩
theorem two_mid (w : World) (z a : V) : Blk (((w.alloc (.cells z.arr 25)).alloc (.cells z.arr 25)).setRow w.heap.size a.arr) (w.heap.size + 1) 25 z.arr :=
  (two_new w z z).two.kept (Kept.setRow _ w.heap.size a.arr) (by omega)

theorem Two.laid {w W : World} {a b : V} (h : Two w W a b) (z v : V) : Two w ((W.alloc (.cells z.arr 25)).setRow W.heap.size v.arr) a b := h.below (laid_old W z v)

theorem exec_add {ev : Operand → Value} {o : Oper} {x y : Operand} {u t : TypeId} {a b : Nat} {w : World} (ho : o.op = .binOp .add u x y t) (hx : ev x = .int .u64 (a : Int)) (hy : ev y = .int .u64 (b : Int)) (hr : a + b < 18446744073709551616) : (execOp ev o).run Try.prog w = .ok (.value (.int .u64 ((a + b : Nat) : Int))) w := by
  have e : IntKind.u64.wrap ((a : Int) + (b : Int)) = ((a + b : Nat) : Int) := by rw [IntKind.wrap_u64]; omega
  unfold execOp
  simp [ho, hx, hy, eqGuard, binOp, Op.intArith, e]

theorem wpList_zero25 {ops : Array Oper} {rest : List Oper} {o : Oper} {act : Act} {Q : Exit → Act → World → Prop} {W : World} {z : V} (hz : V.zero = z) (hw : Region.wanted o (yielded ops act.tmps) = true) (ho : o.op = .build 25 #[])
    (k : wpList Try.prog ops Q rest (act.put o.dst (.agg z.arr)) W) : wpList Try.prog ops Q (o :: rest) act W :=
  BigFrame.wpList_want hw fun K hK => by
    subst hz
    have h1 : (#[] : Array (Nat × Operand)).map (fun (i, x) => (i, act.eval x)) = #[] := by simp
    unfold Oper.wp execOp
    simp only [ho, h1, Sem.run_bind, build25, Result.andThen_ok]
    exact hK _ _ k

end Go.Proofs.Ytmibfbbkjejkmaa
