/- Conversions of bytes, comparisons of numbers, rows of cells set at once: single operations whose run is known. -/
import Derived.Test.YtjpmjidpdgikgaaHx
import Derived.Deep.Upon
namespace Go.Proofs.Ytjpmjidpdgikgaa
open Go.RowKit

theorem str_nil : strOf [] = ByteArray.empty := by decide

theorem conv_any {w : World} {a : Option Addr} {len cap : Nat} {l : List Nat} (h : Row w a len l) :
    (convert 23 9 (.slice a len cap)).run Try.prog w = .ok (.string (strOf l)) w := by
  by_cases h0 : len = 0
  · subst h0
    obtain rfl := List.eq_nil_of_length_eq_zero h.size
    rw [str_nil]
    cases a with
    | none => exact run_convert_bytes_nil w 23 5 Try.underlying23 Try.underlying5 0 cap 9 Try.underlying9
    | some ad => exact run_convert_bytes_back w 23 9 5 ad cap [] Try.underlying23 Try.underlying5 Try.underlying9 (fun j hj => by simp at hj)
  · obtain ⟨b, off, rfl, _⟩ := h.cells.resolve_left h0
    exact conv_row h

theorem Kept.setRow (w : World) (g : Nat) (ds : Array Value) : Kept (fun k => k = g) w (w.setRow g ds) :=
  ⟨rfl, rfl, rfl, by simp [World.setRow], fun k _ hn => by
    simp only [World.setRow, Array.getElem?_modify]
    rw [if_neg (fun e => hn e.symm)]⟩

theorem Blk.row {w : World} {g : Nat} {t : TypeId} {cs ds : Array Value} (h : Blk w g t cs) : Blk (w.setRow g ds) g t ds := by
  unfold Blk at h ⊢
  simp [World.setRow, Array.getElem?_modify, h]

section
variable {ev : Operand → Value} {o : Oper} {w : World}
theorem exec_lssI {x y : Operand} {u t : TypeId} {k : IntKind} {a b : Int} {r : Bool} (ho : o.op = .binOp .lss u x y t) (hx : ev x = .int k a) (hy : ev y = .int k b) (hr : decide (a < b) = r) : (execOp ev o).run Try.prog w = .ok (.value (.bool r)) w := by
  subst hr
  unfold execOp
  simp [ho, hx, hy, eqGuard, binOp, Op.intCmp]
theorem exec_leqI {x y : Operand} {u t : TypeId} {k : IntKind} {a b : Int} {r : Bool} (ho : o.op = .binOp .leq u x y t) (hx : ev x = .int k a) (hy : ev y = .int k b) (hr : decide (a ≤ b) = r) : (execOp ev o).run Try.prog w = .ok (.value (.bool r)) w := by
  subst hr
  unfold execOp
  simp [ho, hx, hy, eqGuard, binOp, Op.intCmp]
theorem exec_geqI {x y : Operand} {u t : TypeId} {k : IntKind} {a b : Int} {r : Bool} (ho : o.op = .binOp .geq u x y t) (hx : ev x = .int k a) (hy : ev y = .int k b) (hr : decide (b ≤ a) = r) : (execOp ev o).run Try.prog w = .ok (.value (.bool r)) w := by
  subst hr
  unfold execOp
  simp [ho, hx, hy, eqGuard, binOp, Op.intCmp]
theorem exec_gtrI {x y : Operand} {u t : TypeId} {k : IntKind} {a b : Int} {r : Bool} (ho : o.op = .binOp .gtr u x y t) (hx : ev x = .int k a) (hy : ev y = .int k b) (hr : decide (b < a) = r) : (execOp ev o).run Try.prog w = .ok (.value (.bool r)) w := by
  subst hr
  unfold execOp
  simp [ho, hx, hy, eqGuard, binOp, Op.intCmp]
end

section
variable {ops : Array Oper} {rest : List Oper} {o : Oper} {act : Act} {Q : Exit → Act → World → Prop} {W W2 : World}
theorem wpList_runW {v : Value} (hrun : (execOp act.eval o).run Try.prog W = .ok (.value v) W2) (hw : Region.wanted o (yielded ops act.tmps) = true)
    (k : wpList Try.prog ops Q rest (act.put o.dst v) W2) : wpList Try.prog ops Q (o :: rest) act W :=
  BigFrame.wpList_want hw fun _ hK => by
    unfold Oper.wp
    rw [hrun]
    exact hK _ _ k
end

structure Halt_ (p : Prop) : Prop where
  out : p

end Go.Proofs.Ytjpmjidpdgikgaa
