import Derived.Laws.MakeOwn
import Derived.Shelf.SlSortCmp.WholeK
import Derived.Deep.Upon
import Derived.Lib.AppendZerosOnto
import Derived.Lib.Overlaps
import Derived.Laws.NewBlocks
import Derived.Laws.IdiomCopy
import Derived.Sort.Grow
import Derived.Deep.DeepCutAuto
import Derived.Great.BuildSlice
import Derived.Laws.Tables
import Derived.Lib.Walk
import Derived.Lib.BitFns
import Derived.IntWalk
import Derived.Sort.AssemblyPlain
import Derived.CellFam
import Derived.BigGuard
import Derived.BigCall
import Derived.BigRegion
import Derived.Deep.Draws
import Derived.Deep.QuietTactic
import Derived.BigQuiet
import Derived.Deep.OwnRows
import Derived.Shelf.SlicesE.Compact
import Derived.Sort.LotD2
import Derived.Maps.RangeWalk
import Derived.Maps.Ext
import Derived.Maps.OwnOps
import Derived.Maps.OwnSet
import Derived.DeepKeys4
import Derived.Lib.AppendZeros
import Derived.RangeFuncNested
import Derived.RangeFuncBound
import Derived.RangeFuncCalls
import Derived.RangeFuncLeaves
import Derived.RangeFuncFrom
import Derived.RangeFuncBox
import Derived.Shelf.Abstract
import Derived.Shelf.RegionOpen
import Derived.OwnWalkIn
import Derived.TacticsInMore
import Derived.LoopNIn
import Derived.LoopIn
import Derived.Maps.OwnIn
import Derived.Maps.AppendAt
import Derived.ProofKit
import Derived.OpenShut
import Derived.ChangeOld
import Derived.ChangeSame
import Derived.Lib.SmallJoins
import Derived.Deep.Slices
import Derived.Deep.Fields
import Derived.Test.YtnekpgmgnepdoaaGreatZaa
namespace Go.Proofs.YtnekpgmgnepdoaaGreat
open Go.RowKit
theorem nodup_len {α : Type} [DecidableEq α] : ∀ {l l2 : List α}, l.Nodup → (∀ x ∈ l, x ∈ l2) → l.length ≤ l2.length
 | [], _, _, _ => Nat.zero_le _
 | x :: l, l2, hn, hs => by
  have hx := hs x (by simp)
  have hc := List.nodup_cons.1 hn
  have := nodup_len (l := l) (l2 := l2.erase x) hc.2 (fun y hy => (List.mem_erase_of_ne (by rintro rfl; exact hc.1 hy)).2 (hs y (List.mem_cons_of_mem _ hy)))
  rw [List.length_erase_of_mem hx] at this
  have h0 := List.length_pos_of_mem hx
  simp only [List.length_cons]
  omega
end Go.Proofs.YtnekpgmgnepdoaaGreat
