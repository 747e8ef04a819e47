import Derived.Test.YtnekpgmgnepdoaaGreatZaa
namespace Go.Proofs.YtnekpgmgnepdoaaGreat
open Go.RowKit
theorem exec_neqI {ev : Operand → Value} {o : Oper} {x y : Operand} {u t : TypeId} {k : IntKind} {a b : Int} {r : Bool} {w : World} (_hu : True) (ho : o.op = .binOp .neq u x y t) (hx : ev x = .int k a) (hy : ev y = .int k b) (hr : (a != b) = r) : (execOp ev o).run Tryz.prog w = .ok (.value (.bool r)) w := by
 subst hr
 unfold execOp
 simp [ho, hx, hy, eqGuard, binOp, Op.intCmp]
end Go.Proofs.YtnekpgmgnepdoaaGreat
