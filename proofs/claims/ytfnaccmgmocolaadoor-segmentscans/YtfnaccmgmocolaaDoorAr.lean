/- A vector laid down at a new block, and the walk past it. -/
import Derived.Test.YtfnaccmgmocolaaDoorEnc
import Derived.Test.YtfnaccmgmocolaaDoorDot
namespace Go.Proofs.YtfnaccmgmocolaaDoor
open Go.RowKit

theorem str_nil : strOf [] = ByteArray.empty := by decide

theorem conv_any {w : World} {a : Option Addr} {len cap : Nat} {l : List Nat} (h : Row w a len l) :
    (convert 31 9 (.slice a len cap)).run Tryd.prog w = .ok (.string (strOf l)) w := by
  by_cases h0 : len = 0
  · subst h0
    obtain rfl := List.eq_nil_of_length_eq_zero h.size
    rw [str_nil]
    cases a with
    | none => exact run_convert_bytes_nil w 31 5 Tryd.underlying31 Tryd.underlying5 0 cap 9 Tryd.underlying9
    | some ad => exact run_convert_bytes_back w 31 9 5 ad cap [] Tryd.underlying31 Tryd.underlying5 Tryd.underlying9 (fun j hj => by simp at hj)
  · obtain ⟨b, off, rfl, _⟩ := h.cells.resolve_left h0
    exact conv_row h

/-- A vector of two numbers. -/
def lit (x y : Nat) : V := V.of fun i => if i = 0 then x else if i = 1 then y else 0

section
variable {ops : Array Oper} {rest : List Oper} {o : Oper} {act : Act} {Q : Exit → Act → World → Prop} {W : World}

theorem wpList_load27w {g : Nat} {v : V} {x : Operand} (hw : Region.wanted o (yielded ops act.tmps) = true) (ho : o.op = .load 27 x) (hx : act.eval x = .pointer (some ⟨g, 0, none⟩)) (h : Blk W g 27 v.arr)
    (k : wpList Tryd.prog ops Q rest (act.put o.dst (.agg v.arr)) W) : wpList Tryd.prog ops Q (o :: rest) act W :=
  BigFrame.wpList_want hw fun K hK => by
    unfold Oper.wp
    rw [exec_load27 ho hx h]
    exact hK _ _ k

theorem wpList_build27 {v : V} (x y : Int) (hb : ∀ w : World, (Instr.build 27 #[(0, .int .u32 x), (1, .int .u32 y)]).run Tryd.prog w = .ok (.agg v.arr) w) (hw : Region.wanted o (yielded ops act.tmps) = true) (ho : o.op = .build 27 #[(0, .const (.int .u32 x)), (1, .const (.int .u32 y))])
    (k : wpList Tryd.prog ops Q rest (act.put o.dst (.agg v.arr)) W) : wpList Tryd.prog ops Q (o :: rest) act W :=
  BigFrame.wpList_want hw fun K hK => by
    have h1 : (#[((0 : Nat), Operand.const (.int .u32 x)), (1, .const (.int .u32 y))]).map (fun (i, x) => (i, act.eval x)) = #[(0, .int .u32 x), (1, .int .u32 y)] := by simp [Act.eval]
    unfold Oper.wp execOp
    simp only [ho, h1, Sem.run_bind, hb, Result.andThen_ok]
    exact hK _ _ k

theorem wpList_alloc27 {z : V} (hz : V.zero = z) (hgd : o.guard = none) (ho : o.op = .alloc 27)
    (k : wpList Tryd.prog ops Q rest (act.put o.dst (.pointer (some ⟨W.heap.size, 0, none⟩))) (W.alloc (.cells z.arr 27))) : wpList Tryd.prog ops Q (o :: rest) act W :=
  wpList_plain hgd fun K hK => by
    subst hz
    unfold Oper.wp execOp
    simp only [ho, Sem.run_bind, alloc27, Result.andThen_ok]
    exact hK _ _ k

theorem wpList_eql27 {x y : Operand} {t : TypeId} {a b : V} (r : Bool) (hw : Region.wanted o (yielded ops act.tmps) = true) (ho : o.op = .binOp .eql 27 x y t) (hx : act.eval x = .agg a.arr) (hy : act.eval y = .agg b.arr) (hr : V.eqB a b = r)
    (k : wpList Tryd.prog ops Q rest (act.put o.dst (.bool r)) W) : wpList Tryd.prog ops Q (o :: rest) act W :=
  BigFrame.wpList_want hw fun K hK => by
    unfold Oper.wp
    rw [exec_eql27 ho hx hy hr]
    exact hK _ _ k
end

/-- The walk stands still here. -/
structure Halt_ (p : Prop) : Prop where
  out : p
/-- The walk stands still at a store of a vector. -/
theorem wpList_stop {ops : Array Oper} {rest : List Oper} {o : Oper} {act : Act} {Q : Exit → Act → World → Prop} {W : World} {x y : Operand} (_ho : o.op = .store 27 x y) (k : Halt_ (wpList Tryd.prog ops Q (o :: rest) act W)) : wpList Tryd.prog ops Q (o :: rest) act W := k.out

/-! A vector laid down at a new block. -/
theorem laid_blk (w : World) (z v : V) : Blk ((w.alloc (.cells z.arr 27)).setRow w.heap.size v.arr) w.heap.size 27 v.arr := (Blk.new w 27 z.arr).row
theorem laid_old (w : World) (z v : V) : Below w.heap.size w ((w.alloc (.cells z.arr 27)).setRow w.heap.size v.arr) :=
  (below_one w _).trans ((Kept.setRow (w.alloc (.cells z.arr 27)) w.heap.size v.arr).below (by simp) (fun k hk => by omega))

theorem two_laid (w : World) (z a b : V) : Two w ((((w.alloc (.cells z.arr 27)).alloc (.cells z.arr 27)).setRow w.heap.size a.arr).setRow (w.heap.size + 1) b.arr) a b := by
  have h := two_new w z z
  have k1 := Kept.setRow ((w.alloc (.cells z.arr 27)).alloc (.cells z.arr 27)) w.heap.size a.arr
  have k2 := Kept.setRow (((w.alloc (.cells z.arr 27)).alloc (.cells z.arr 27)).setRow w.heap.size a.arr) (w.heap.size + 1) b.arr
  refine ⟨(h.one.row).kept k2 (by omega), (h.two.kept k1 (by omega)).row, (h.old.trans (k1.below h.old.size (fun k hk => by omega))).trans (k2.below (Nat.le_trans h.old.size k1.size) (fun k hk => by omega))⟩
theorem two_mid (w : World) (z a : V) : Blk (((w.alloc (.cells z.arr 27)).alloc (.cells z.arr 27)).setRow w.heap.size a.arr) (w.heap.size + 1) 27 z.arr :=
  (two_new w z z).two.kept (Kept.setRow _ w.heap.size a.arr) (by omega)

theorem Two.laid {w W : World} {a b : V} (h : Two w W a b) (z v : V) : Two w ((W.alloc (.cells z.arr 27)).setRow W.heap.size v.arr) a b := h.below (laid_old W z v)

theorem exec_add {ev : Operand → Value} {o : Oper} {x y : Operand} {u t : TypeId} {a b : Nat} {w : World} (ho : o.op = .binOp .add u x y t) (hx : ev x = .int .u64 (a : Int)) (hy : ev y = .int .u64 (b : Int)) (hr : a + b < 18446744073709551616) : (execOp ev o).run Tryd.prog w = .ok (.value (.int .u64 ((a + b : Nat) : Int))) w := by
  have e : IntKind.u64.wrap ((a : Int) + (b : Int)) = ((a + b : Nat) : Int) := by rw [IntKind.wrap_u64]; omega
  unfold execOp
  simp [ho, hx, hy, eqGuard, binOp, Op.intArith, e]

theorem wpList_zero27 {ops : Array Oper} {rest : List Oper} {o : Oper} {act : Act} {Q : Exit → Act → World → Prop} {W : World} {z : V} (hz : V.zero = z) (hw : Region.wanted o (yielded ops act.tmps) = true) (ho : o.op = .build 27 #[])
    (k : wpList Tryd.prog ops Q rest (act.put o.dst (.agg z.arr)) W) : wpList Tryd.prog ops Q (o :: rest) act W :=
  BigFrame.wpList_want hw fun K hK => by
    subst hz
    have h1 : (#[] : Array (Nat × Operand)).map (fun (i, x) => (i, act.eval x)) = #[] := by simp
    unfold Oper.wp execOp
    simp only [ho, h1, Sem.run_bind, build27, Result.andThen_ok]
    exact hK _ _ k

end Go.Proofs.YtfnaccmgmocolaaDoor
