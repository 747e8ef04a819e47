/-
  No cell of these rows narrows 'for every input' (looked for: loops, veiled, ifaces, maps, wideKeys, modest, calm, conditions, laid).
  DERIVED. THE GIVEN ROWS OF THIS SEAT. 8 by the template 'for every input the law returns true; each argument reads behind the call as it read before'; 0 by the template 'total and deterministic' (their statements: YtjfcddfnmbeolaaTotals.lean).
  GIVEN WITH THE SEED: the statements are not yours to turn. If you find one false, say at which input.
  Laid BY PROGRAM, IN A SANDBOX (cutbox-rows.mjs): the forced cells as the released guide's own fill.sh prints them over the translation 275ed47ec738702f… (all of the seat's roots in one cut). By AI agents, Wed Nov 11 2026. No macro, syntax, notation, axiom, sorry.
-/
import Derived.Test.YtjfcddfnmbeolaaChecked
import GoSem.Claim
import GoSem.ClaimJoined
import GoSem.ClaimMapViews
import Derived.JoinedTies
import Derived.KernelRfl
namespace Go.Proofs.Ytjfcddfnmbeolaa
/- THE CELL 'sum', in the pinned program and in every row, IS THE sha256 OF THE DUMP (.gsa) THAT YtjfcddfnmbeolaaProg.lean LOADS. Nothing in Lean hashes anything: it is a label: what it is worth is what the hold of that sum in a sandbox is worth. -/
noncomputable def Try.pinned : Pinned := { name := "ytjfcddfnmbeolaa", sum := "275ed47ec738702f06c21a2e7dda644c29aa33b7cd6b6b4affe85fe74eeea326", checked := Try.checked }
namespace Rows
def none {H : Type} : Left H := { results := [], args := [] }

/-- 'truglaw06.OpRights': WHATEVER THE INPUT: true; the input reads as it did. -/
def opRightsSpec : ChangeSpec := { name := "opRights", fn := fun _ => fun
  | [d1, d2, d3] => { results := [.lit (.bool true)], args := [d1, d2, d3] }
  | _ => none }
def opRightsRow : OpenClaim := { program := "ytjfcddfnmbeolaa", sum := "275ed47ec738702f06c21a2e7dda644c29aa33b7cd6b6b4affe85fe74eeea326", func := "trug/truglaw06.OpRights", spec := "opRights", apart := false }
def OpRightsSaid : Prop := opRightsRow.holds Try.pinned (OpenSpec.ofChange opRightsSpec)

/-- ITS FALSE NEIGHBOUR: 'it returns false'. Refute it at one input. -/
def opRightsWrong : ChangeSpec := { name := "opRights", fn := fun _ => fun
  | [d1, d2, d3] => { results := [.lit (.bool false)], args := [d1, d2, d3] }
  | _ => none }
def OpRightsWrongFalsely : Prop := opRightsRow.holds Try.pinned (OpenSpec.ofChange opRightsWrong)

/-- 'truglaw06.OpReady': WHATEVER THE INPUT: true; the input reads as it did. -/
def opReadySpec : ChangeSpec := { name := "opReady", fn := fun _ => fun
  | [d1, d2] => { results := [.lit (.bool true)], args := [d1, d2] }
  | _ => none }
def opReadyRow : OpenClaim := { program := "ytjfcddfnmbeolaa", sum := "275ed47ec738702f06c21a2e7dda644c29aa33b7cd6b6b4affe85fe74eeea326", func := "trug/truglaw06.OpReady", spec := "opReady", apart := false }
def OpReadySaid : Prop := opReadyRow.holds Try.pinned (OpenSpec.ofChange opReadySpec)

/-- ITS FALSE NEIGHBOUR: 'it returns false'. Refute it at one input. -/
def opReadyWrong : ChangeSpec := { name := "opReady", fn := fun _ => fun
  | [d1, d2] => { results := [.lit (.bool false)], args := [d1, d2] }
  | _ => none }
def OpReadyWrongFalsely : Prop := opReadyRow.holds Try.pinned (OpenSpec.ofChange opReadyWrong)

/-- 'truglaw06.OpBytes': WHATEVER THE INPUT: true; the input reads as it did. -/
def opBytesSpec : ChangeSpec := { name := "opBytes", fn := fun _ => fun
  | [d1, d2] => { results := [.lit (.bool true)], args := [d1, d2] }
  | _ => none }
def opBytesRow : OpenClaim := { program := "ytjfcddfnmbeolaa", sum := "275ed47ec738702f06c21a2e7dda644c29aa33b7cd6b6b4affe85fe74eeea326", func := "trug/truglaw06.OpBytes", spec := "opBytes", apart := false }
def OpBytesSaid : Prop := opBytesRow.holds Try.pinned (OpenSpec.ofChange opBytesSpec)

/-- ITS FALSE NEIGHBOUR: 'it returns false'. Refute it at one input. -/
def opBytesWrong : ChangeSpec := { name := "opBytes", fn := fun _ => fun
  | [d1, d2] => { results := [.lit (.bool false)], args := [d1, d2] }
  | _ => none }
def OpBytesWrongFalsely : Prop := opBytesRow.holds Try.pinned (OpenSpec.ofChange opBytesWrong)

/-- 'truglaw06.OpBack': WHATEVER THE INPUT: true; the input reads as it did. -/
def opBackSpec : ChangeSpec := { name := "opBack", fn := fun _ => fun
  | [d1, d2] => { results := [.lit (.bool true)], args := [d1, d2] }
  | _ => none }
def opBackRow : OpenClaim := { program := "ytjfcddfnmbeolaa", sum := "275ed47ec738702f06c21a2e7dda644c29aa33b7cd6b6b4affe85fe74eeea326", func := "trug/truglaw06.OpBack", spec := "opBack", apart := false }
def OpBackSaid : Prop := opBackRow.holds Try.pinned (OpenSpec.ofChange opBackSpec)

/-- ITS FALSE NEIGHBOUR: 'it returns false'. Refute it at one input. -/
def opBackWrong : ChangeSpec := { name := "opBack", fn := fun _ => fun
  | [d1, d2] => { results := [.lit (.bool false)], args := [d1, d2] }
  | _ => none }
def OpBackWrongFalsely : Prop := opBackRow.holds Try.pinned (OpenSpec.ofChange opBackWrong)

/-- 'truglaw06.OpOrder': WHATEVER THE INPUT: true; the input reads as it did. -/
def opOrderSpec : ChangeSpec := { name := "opOrder", fn := fun _ => fun
  | [d1, d2, d3] => { results := [.lit (.bool true)], args := [d1, d2, d3] }
  | _ => none }
def opOrderRow : OpenClaim := { program := "ytjfcddfnmbeolaa", sum := "275ed47ec738702f06c21a2e7dda644c29aa33b7cd6b6b4affe85fe74eeea326", func := "trug/truglaw06.OpOrder", spec := "opOrder", apart := false }
def OpOrderSaid : Prop := opOrderRow.holds Try.pinned (OpenSpec.ofChange opOrderSpec)

/-- ITS FALSE NEIGHBOUR: 'it returns false'. Refute it at one input. -/
def opOrderWrong : ChangeSpec := { name := "opOrder", fn := fun _ => fun
  | [d1, d2, d3] => { results := [.lit (.bool false)], args := [d1, d2, d3] }
  | _ => none }
def OpOrderWrongFalsely : Prop := opOrderRow.holds Try.pinned (OpenSpec.ofChange opOrderWrong)

/-- 'truglaw06.OpEnds': WHATEVER THE INPUT: true; the input reads as it did. -/
def opEndsSpec : ChangeSpec := { name := "opEnds", fn := fun _ => fun
  | [d1, d2] => { results := [.lit (.bool true)], args := [d1, d2] }
  | _ => none }
def opEndsRow : OpenClaim := { program := "ytjfcddfnmbeolaa", sum := "275ed47ec738702f06c21a2e7dda644c29aa33b7cd6b6b4affe85fe74eeea326", func := "trug/truglaw06.OpEnds", spec := "opEnds", apart := false }
def OpEndsSaid : Prop := opEndsRow.holds Try.pinned (OpenSpec.ofChange opEndsSpec)

/-- ITS FALSE NEIGHBOUR: 'it returns false'. Refute it at one input. -/
def opEndsWrong : ChangeSpec := { name := "opEnds", fn := fun _ => fun
  | [d1, d2] => { results := [.lit (.bool false)], args := [d1, d2] }
  | _ => none }
def OpEndsWrongFalsely : Prop := opEndsRow.holds Try.pinned (OpenSpec.ofChange opEndsWrong)

/-- 'truglaw06.OpNext': WHATEVER THE INPUT: true; the input reads as it did. -/
def opNextSpec : ChangeSpec := { name := "opNext", fn := fun _ => fun
  | [d1, d2] => { results := [.lit (.bool true)], args := [d1, d2] }
  | _ => none }
def opNextRow : OpenClaim := { program := "ytjfcddfnmbeolaa", sum := "275ed47ec738702f06c21a2e7dda644c29aa33b7cd6b6b4affe85fe74eeea326", func := "trug/truglaw06.OpNext", spec := "opNext", apart := false }
def OpNextSaid : Prop := opNextRow.holds Try.pinned (OpenSpec.ofChange opNextSpec)

/-- ITS FALSE NEIGHBOUR: 'it returns false'. Refute it at one input. -/
def opNextWrong : ChangeSpec := { name := "opNext", fn := fun _ => fun
  | [d1, d2] => { results := [.lit (.bool false)], args := [d1, d2] }
  | _ => none }
def OpNextWrongFalsely : Prop := opNextRow.holds Try.pinned (OpenSpec.ofChange opNextWrong)

/-- 'truglaw06.OpCounts': WHATEVER THE INPUT: true; the input reads as it did. -/
def opCountsSpec : ChangeSpec := { name := "opCounts", fn := fun _ => fun
  | [d1, d2] => { results := [.lit (.bool true)], args := [d1, d2] }
  | _ => none }
def opCountsRow : OpenClaim := { program := "ytjfcddfnmbeolaa", sum := "275ed47ec738702f06c21a2e7dda644c29aa33b7cd6b6b4affe85fe74eeea326", func := "trug/truglaw06.OpCounts", spec := "opCounts", apart := false }
def OpCountsSaid : Prop := opCountsRow.holds Try.pinned (OpenSpec.ofChange opCountsSpec)

/-- ITS FALSE NEIGHBOUR: 'it returns false'. Refute it at one input. -/
def opCountsWrong : ChangeSpec := { name := "opCounts", fn := fun _ => fun
  | [d1, d2] => { results := [.lit (.bool false)], args := [d1, d2] }
  | _ => none }
def OpCountsWrongFalsely : Prop := opCountsRow.holds Try.pinned (OpenSpec.ofChange opCountsWrong)

/- THE SECOND FORM. 'bulk': how many values and letters a reading holds, each counted each time it is reached (what is shared counts as often as it is met; a slice's spare places count too). A statement '..UptoSaid' is the law's where the arguments, and the package variables that the reading takes, are together of bulk at most 1048576: NARROWER than '..Said'. Prove '..Said' where nothing that the law and all that it calls make is longer than what came in: it says more and counts as full. Else prove '..UptoSaid'. A law counts once. -/
mutual
def uptoBulk {H : Type} : DataW H → Nat
  | .lit (.string bytes) => bytes.length + 1
  | .lit _ => 1
  | .nil => 1
  | .ptr d => uptoBulk d + 1
  | .slice elems spare => uptoBulkAll elems + uptoBulkAll spare + 1
  | .agg parts => uptoBulkAll parts + 1
  | .iface _ d => uptoBulk d + 1
  | .map entries => uptoBulkEntries entries + 1
  | .held _ => 1
def uptoBulkAll {H : Type} : List (DataW H) → Nat
  | [] => 0
  | d :: r => uptoBulk d + uptoBulkAll r
def uptoBulkEntries {H : Type} : List (Lit × DataW H) → Nat
  | [] => 0
  | x :: r => uptoBulkEntry x + uptoBulkEntries r
def uptoBulkEntry {H : Type} : Lit × DataW H → Nat
  | (.string bytes, d) => bytes.length + uptoBulk d + 1
  | (_, d) => uptoBulk d + 1
 end
def uptoSmall : (H : Type) → List (DataW H) → Bool := fun _ ds => decide (uptoBulkAll ds ≤ 1048576)
def OpenSpec.upto (s : _root_.Go.ChangeSpec) : _root_.Go.OpenSpec := { _root_.Go.OpenSpec.ofChange s with cond := some uptoSmall }

/-- 'truglaw06.OpRights', WHERE WHAT IT READS IS OF BULK AT MOST 1048576: true; the input reads as it did. -/
def opRightsUptoRow : OpenClaim := { program := "ytjfcddfnmbeolaa", sum := "275ed47ec738702f06c21a2e7dda644c29aa33b7cd6b6b4affe85fe74eeea326", func := "trug/truglaw06.OpRights", spec := "opRights", apart := false, narrowed := true }
def OpRightsUptoSaid : Prop := opRightsUptoRow.holds Try.pinned (OpenSpec.upto opRightsSpec)

/-- 'truglaw06.OpReady', WHERE WHAT IT READS IS OF BULK AT MOST 1048576: true; the input reads as it did. -/
def opReadyUptoRow : OpenClaim := { program := "ytjfcddfnmbeolaa", sum := "275ed47ec738702f06c21a2e7dda644c29aa33b7cd6b6b4affe85fe74eeea326", func := "trug/truglaw06.OpReady", spec := "opReady", apart := false, narrowed := true }
def OpReadyUptoSaid : Prop := opReadyUptoRow.holds Try.pinned (OpenSpec.upto opReadySpec)

/-- 'truglaw06.OpBytes', WHERE WHAT IT READS IS OF BULK AT MOST 1048576: true; the input reads as it did. -/
def opBytesUptoRow : OpenClaim := { program := "ytjfcddfnmbeolaa", sum := "275ed47ec738702f06c21a2e7dda644c29aa33b7cd6b6b4affe85fe74eeea326", func := "trug/truglaw06.OpBytes", spec := "opBytes", apart := false, narrowed := true }
def OpBytesUptoSaid : Prop := opBytesUptoRow.holds Try.pinned (OpenSpec.upto opBytesSpec)

/-- 'truglaw06.OpBack', WHERE WHAT IT READS IS OF BULK AT MOST 1048576: true; the input reads as it did. -/
def opBackUptoRow : OpenClaim := { program := "ytjfcddfnmbeolaa", sum := "275ed47ec738702f06c21a2e7dda644c29aa33b7cd6b6b4affe85fe74eeea326", func := "trug/truglaw06.OpBack", spec := "opBack", apart := false, narrowed := true }
def OpBackUptoSaid : Prop := opBackUptoRow.holds Try.pinned (OpenSpec.upto opBackSpec)

/-- 'truglaw06.OpOrder', WHERE WHAT IT READS IS OF BULK AT MOST 1048576: true; the input reads as it did. -/
def opOrderUptoRow : OpenClaim := { program := "ytjfcddfnmbeolaa", sum := "275ed47ec738702f06c21a2e7dda644c29aa33b7cd6b6b4affe85fe74eeea326", func := "trug/truglaw06.OpOrder", spec := "opOrder", apart := false, narrowed := true }
def OpOrderUptoSaid : Prop := opOrderUptoRow.holds Try.pinned (OpenSpec.upto opOrderSpec)

/-- 'truglaw06.OpEnds', WHERE WHAT IT READS IS OF BULK AT MOST 1048576: true; the input reads as it did. -/
def opEndsUptoRow : OpenClaim := { program := "ytjfcddfnmbeolaa", sum := "275ed47ec738702f06c21a2e7dda644c29aa33b7cd6b6b4affe85fe74eeea326", func := "trug/truglaw06.OpEnds", spec := "opEnds", apart := false, narrowed := true }
def OpEndsUptoSaid : Prop := opEndsUptoRow.holds Try.pinned (OpenSpec.upto opEndsSpec)

/-- 'truglaw06.OpNext', WHERE WHAT IT READS IS OF BULK AT MOST 1048576: true; the input reads as it did. -/
def opNextUptoRow : OpenClaim := { program := "ytjfcddfnmbeolaa", sum := "275ed47ec738702f06c21a2e7dda644c29aa33b7cd6b6b4affe85fe74eeea326", func := "trug/truglaw06.OpNext", spec := "opNext", apart := false, narrowed := true }
def OpNextUptoSaid : Prop := opNextUptoRow.holds Try.pinned (OpenSpec.upto opNextSpec)

/-- 'truglaw06.OpCounts', WHERE WHAT IT READS IS OF BULK AT MOST 1048576: true; the input reads as it did. -/
def opCountsUptoRow : OpenClaim := { program := "ytjfcddfnmbeolaa", sum := "275ed47ec738702f06c21a2e7dda644c29aa33b7cd6b6b4affe85fe74eeea326", func := "trug/truglaw06.OpCounts", spec := "opCounts", apart := false, narrowed := true }
def OpCountsUptoSaid : Prop := opCountsUptoRow.holds Try.pinned (OpenSpec.upto opCountsSpec)

end Rows
end Go.Proofs.Ytjfcddfnmbeolaa
