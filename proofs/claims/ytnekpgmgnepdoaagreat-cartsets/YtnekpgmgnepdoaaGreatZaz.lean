import Derived.Shelf.SlSortCmp.WholeK
import Derived.Deep.Upon
import Derived.Lib.AppendZerosOnto
import Derived.Lib.Overlaps
import Derived.Laws.NewBlocks
import Derived.Laws.IdiomCopy
import Derived.Sort.Grow
import Derived.Deep.DeepCutAuto
import Derived.Great.BuildSlice
import Derived.Lib.Walk
import Derived.Lib.BitFns
import Derived.IntWalk
import Derived.Sort.AssemblyPlain
import Derived.CellFam
import Derived.BigGuard
import Derived.BigCall
import Derived.BigRegion
import Derived.Deep.Draws
import Derived.Deep.QuietTactic
import Derived.BigQuiet
import Derived.Deep.OwnRows
import Derived.Shelf.SlicesE.Compact
import Derived.Sort.LotD2
import Derived.Maps.RangeWalk
import Derived.Maps.Ext
import Derived.Maps.OwnOps
import Derived.Maps.OwnSet
import Derived.DeepKeys4
import Derived.Lib.AppendZeros
import Derived.Test.YtnekpgmgnepdoaaGreatZab
section
namespace Go.Proofs.YtnekpgmgnepdoaaGreat
theorem putE_perm (x : En) : ∀ l, (putE x l).Perm (x :: l)
 | [] => List.Perm.refl _
 | y :: l => by
  unfold putE
  split
  ·exact List.Perm.refl _
  ·exact ((putE_perm x l).cons y).trans (List.Perm.swap x y l)
end Go.Proofs.YtnekpgmgnepdoaaGreat
end
section
namespace Go.Proofs.YtnekpgmgnepdoaaGreat
open Go.RowKit
section
variable {ev : Operand → Value} {q : Oper} {w : World} {ops : Array Oper} {rest : List Oper} {o : Oper} {act : Act} {Q : Exit → Act → World → Prop} {W : World}
theorem wpList_stopT {x y : Operand} (_ho : o.op = .store 22 x y) (k : Halt_ (wpList Tryz.prog ops Q (o :: rest) act W)) : wpList Tryz.prog ops Q (o :: rest) act W := k.out
end
end Go.Proofs.YtnekpgmgnepdoaaGreat
end
