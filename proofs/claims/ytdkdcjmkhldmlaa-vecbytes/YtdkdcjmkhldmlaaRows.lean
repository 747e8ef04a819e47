/-
  No cell of these rows narrows 'for every input' (looked for: loops, veiled, ifaces, maps, wideKeys, modest, calm, conditions, laid).
  DERIVED. THE GIVEN ROWS OF THIS SEAT. 8 by the template 'for every input the law returns true; each argument reads behind the call as it read before'; 0 by the template 'total and deterministic' (their statements: YtdkdcjmkhldmlaaTotals.lean).
  GIVEN WITH THE SEED: the statements are not yours to turn. If you find one false, say at which input.
  Laid BY PROGRAM, IN A SANDBOX (cutbox-rows.mjs): the forced cells as the released guide's own fill.sh prints them over the translation 1c5fe05cce901fc9… (all of the seat's roots in one cut). By AI agents, Wed Nov 11 2026. No macro, syntax, notation, axiom, sorry.
-/
import Derived.Test.YtdkdcjmkhldmlaaChecked
import GoSem.Claim
import GoSem.ClaimJoined
import GoSem.ClaimMapViews
import Derived.JoinedTies
import Derived.KernelRfl
namespace Go.Proofs.Ytdkdcjmkhldmlaa
/- THE CELL 'sum', in the pinned program and in every row, IS THE sha256 OF THE DUMP (.gsa) THAT YtdkdcjmkhldmlaaProg.lean LOADS. Nothing in Lean hashes anything: it is a label: what it is worth is what the hold of that sum in a sandbox is worth. -/
noncomputable def Try.pinned : Pinned := { name := "ytdkdcjmkhldmlaa", sum := "1c5fe05cce901fc9298a369ff00e1fc7ebfe755a3d4d8a1f164a9dae93e1a324", checked := Try.checked }
namespace Rows
def none {H : Type} : Left H := { results := [], args := [] }

/-- 'truglaw04.VecOrders': WHATEVER THE INPUT: true; the input reads as it did. -/
def vecOrdersSpec : ChangeSpec := { name := "vecOrders", fn := fun _ => fun
  | [d1, d2, d3] => { results := [.lit (.bool true)], args := [d1, d2, d3] }
  | _ => none }
def vecOrdersRow : OpenClaim := { program := "ytdkdcjmkhldmlaa", sum := "1c5fe05cce901fc9298a369ff00e1fc7ebfe755a3d4d8a1f164a9dae93e1a324", func := "trug/truglaw04.VecOrders", spec := "vecOrders", apart := false }
def VecOrdersSaid : Prop := vecOrdersRow.holds Try.pinned (OpenSpec.ofChange vecOrdersSpec)

/-- ITS FALSE NEIGHBOUR: 'it returns false'. Refute it at one input. -/
def vecOrdersWrong : ChangeSpec := { name := "vecOrders", fn := fun _ => fun
  | [d1, d2, d3] => { results := [.lit (.bool false)], args := [d1, d2, d3] }
  | _ => none }
def VecOrdersWrongFalsely : Prop := vecOrdersRow.holds Try.pinned (OpenSpec.ofChange vecOrdersWrong)

/-- 'truglaw04.VecJoins': WHATEVER THE INPUT: true; the input reads as it did. -/
def vecJoinsSpec : ChangeSpec := { name := "vecJoins", fn := fun _ => fun
  | [d1, d2] => { results := [.lit (.bool true)], args := [d1, d2] }
  | _ => none }
def vecJoinsRow : OpenClaim := { program := "ytdkdcjmkhldmlaa", sum := "1c5fe05cce901fc9298a369ff00e1fc7ebfe755a3d4d8a1f164a9dae93e1a324", func := "trug/truglaw04.VecJoins", spec := "vecJoins", apart := false }
def VecJoinsSaid : Prop := vecJoinsRow.holds Try.pinned (OpenSpec.ofChange vecJoinsSpec)

/-- ITS FALSE NEIGHBOUR: 'it returns false'. Refute it at one input. -/
def vecJoinsWrong : ChangeSpec := { name := "vecJoins", fn := fun _ => fun
  | [d1, d2] => { results := [.lit (.bool false)], args := [d1, d2] }
  | _ => none }
def VecJoinsWrongFalsely : Prop := vecJoinsRow.holds Try.pinned (OpenSpec.ofChange vecJoinsWrong)

/-- 'truglaw04.VecDots': WHATEVER THE INPUT: true; the input reads as it did. -/
def vecDotsSpec : ChangeSpec := { name := "vecDots", fn := fun _ => fun
  | [d1, d2] => { results := [.lit (.bool true)], args := [d1, d2] }
  | _ => none }
def vecDotsRow : OpenClaim := { program := "ytdkdcjmkhldmlaa", sum := "1c5fe05cce901fc9298a369ff00e1fc7ebfe755a3d4d8a1f164a9dae93e1a324", func := "trug/truglaw04.VecDots", spec := "vecDots", apart := false }
def VecDotsSaid : Prop := vecDotsRow.holds Try.pinned (OpenSpec.ofChange vecDotsSpec)

/-- ITS FALSE NEIGHBOUR: 'it returns false'. Refute it at one input. -/
def vecDotsWrong : ChangeSpec := { name := "vecDots", fn := fun _ => fun
  | [d1, d2] => { results := [.lit (.bool false)], args := [d1, d2] }
  | _ => none }
def VecDotsWrongFalsely : Prop := vecDotsRow.holds Try.pinned (OpenSpec.ofChange vecDotsWrong)

/-- 'truglaw04.VecBytes': WHATEVER THE INPUT: true; the input reads as it did. -/
def vecBytesSpec : ChangeSpec := { name := "vecBytes", fn := fun _ => fun
  | [d1, d2] => { results := [.lit (.bool true)], args := [d1, d2] }
  | _ => none }
def vecBytesRow : OpenClaim := { program := "ytdkdcjmkhldmlaa", sum := "1c5fe05cce901fc9298a369ff00e1fc7ebfe755a3d4d8a1f164a9dae93e1a324", func := "trug/truglaw04.VecBytes", spec := "vecBytes", apart := false }
def VecBytesSaid : Prop := vecBytesRow.holds Try.pinned (OpenSpec.ofChange vecBytesSpec)

/-- ITS FALSE NEIGHBOUR: 'it returns false'. Refute it at one input. -/
def vecBytesWrong : ChangeSpec := { name := "vecBytes", fn := fun _ => fun
  | [d1, d2] => { results := [.lit (.bool false)], args := [d1, d2] }
  | _ => none }
def VecBytesWrongFalsely : Prop := vecBytesRow.holds Try.pinned (OpenSpec.ofChange vecBytesWrong)

/-- 'truglaw04.VecLattice': WHATEVER THE INPUT: true; the input reads as it did. -/
def vecLatticeSpec : ChangeSpec := { name := "vecLattice", fn := fun _ => fun
  | [d1, d2, d3] => { results := [.lit (.bool true)], args := [d1, d2, d3] }
  | _ => none }
def vecLatticeRow : OpenClaim := { program := "ytdkdcjmkhldmlaa", sum := "1c5fe05cce901fc9298a369ff00e1fc7ebfe755a3d4d8a1f164a9dae93e1a324", func := "trug/truglaw04.VecLattice", spec := "vecLattice", apart := false }
def VecLatticeSaid : Prop := vecLatticeRow.holds Try.pinned (OpenSpec.ofChange vecLatticeSpec)

/-- ITS FALSE NEIGHBOUR: 'it returns false'. Refute it at one input. -/
def vecLatticeWrong : ChangeSpec := { name := "vecLattice", fn := fun _ => fun
  | [d1, d2, d3] => { results := [.lit (.bool false)], args := [d1, d2, d3] }
  | _ => none }
def VecLatticeWrongFalsely : Prop := vecLatticeRow.holds Try.pinned (OpenSpec.ofChange vecLatticeWrong)

/-- 'truglaw04.VecMembers': WHATEVER THE INPUT: true; the input reads as it did. -/
def vecMembersSpec : ChangeSpec := { name := "vecMembers", fn := fun _ => fun
  | [d1, d2, d3] => { results := [.lit (.bool true)], args := [d1, d2, d3] }
  | _ => none }
def vecMembersRow : OpenClaim := { program := "ytdkdcjmkhldmlaa", sum := "1c5fe05cce901fc9298a369ff00e1fc7ebfe755a3d4d8a1f164a9dae93e1a324", func := "trug/truglaw04.VecMembers", spec := "vecMembers", apart := false }
def VecMembersSaid : Prop := vecMembersRow.holds Try.pinned (OpenSpec.ofChange vecMembersSpec)

/-- ITS FALSE NEIGHBOUR: 'it returns false'. Refute it at one input. -/
def vecMembersWrong : ChangeSpec := { name := "vecMembers", fn := fun _ => fun
  | [d1, d2, d3] => { results := [.lit (.bool false)], args := [d1, d2, d3] }
  | _ => none }
def VecMembersWrongFalsely : Prop := vecMembersRow.holds Try.pinned (OpenSpec.ofChange vecMembersWrong)

/-- 'truglaw04.VecSums': WHATEVER THE INPUT: true; the input reads as it did. -/
def vecSumsSpec : ChangeSpec := { name := "vecSums", fn := fun _ => fun
  | [d1, d2] => { results := [.lit (.bool true)], args := [d1, d2] }
  | _ => none }
def vecSumsRow : OpenClaim := { program := "ytdkdcjmkhldmlaa", sum := "1c5fe05cce901fc9298a369ff00e1fc7ebfe755a3d4d8a1f164a9dae93e1a324", func := "trug/truglaw04.VecSums", spec := "vecSums", apart := false }
def VecSumsSaid : Prop := vecSumsRow.holds Try.pinned (OpenSpec.ofChange vecSumsSpec)

/-- ITS FALSE NEIGHBOUR: 'it returns false'. Refute it at one input. -/
def vecSumsWrong : ChangeSpec := { name := "vecSums", fn := fun _ => fun
  | [d1, d2] => { results := [.lit (.bool false)], args := [d1, d2] }
  | _ => none }
def VecSumsWrongFalsely : Prop := vecSumsRow.holds Try.pinned (OpenSpec.ofChange vecSumsWrong)

/-- 'truglaw04.VecFlip': WHATEVER THE INPUT: true; the input reads as it did. -/
def vecFlipSpec : ChangeSpec := { name := "vecFlip", fn := fun _ => fun
  | [d1, d2, d3] => { results := [.lit (.bool true)], args := [d1, d2, d3] }
  | _ => none }
def vecFlipRow : OpenClaim := { program := "ytdkdcjmkhldmlaa", sum := "1c5fe05cce901fc9298a369ff00e1fc7ebfe755a3d4d8a1f164a9dae93e1a324", func := "trug/truglaw04.VecFlip", spec := "vecFlip", apart := false }
def VecFlipSaid : Prop := vecFlipRow.holds Try.pinned (OpenSpec.ofChange vecFlipSpec)

/-- ITS FALSE NEIGHBOUR: 'it returns false'. Refute it at one input. -/
def vecFlipWrong : ChangeSpec := { name := "vecFlip", fn := fun _ => fun
  | [d1, d2, d3] => { results := [.lit (.bool false)], args := [d1, d2, d3] }
  | _ => none }
def VecFlipWrongFalsely : Prop := vecFlipRow.holds Try.pinned (OpenSpec.ofChange vecFlipWrong)

/- THE SECOND FORM. 'bulk': how many values and letters a reading holds, each counted each time it is reached (what is shared counts as often as it is met; a slice's spare places count too). A statement '..UptoSaid' is the law's where the arguments, and the package variables that the reading takes, are together of bulk at most 1048576: NARROWER than '..Said'. Prove '..Said' where nothing that the law and all that it calls make is longer than what came in: it says more and counts as full. Else prove '..UptoSaid'. A law counts once. -/
mutual
def uptoBulk {H : Type} : DataW H → Nat
  | .lit (.string bytes) => bytes.length + 1
  | .lit _ => 1
  | .nil => 1
  | .ptr d => uptoBulk d + 1
  | .slice elems spare => uptoBulkAll elems + uptoBulkAll spare + 1
  | .agg parts => uptoBulkAll parts + 1
  | .iface _ d => uptoBulk d + 1
  | .map entries => uptoBulkEntries entries + 1
  | .held _ => 1
def uptoBulkAll {H : Type} : List (DataW H) → Nat
  | [] => 0
  | d :: r => uptoBulk d + uptoBulkAll r
def uptoBulkEntries {H : Type} : List (Lit × DataW H) → Nat
  | [] => 0
  | x :: r => uptoBulkEntry x + uptoBulkEntries r
def uptoBulkEntry {H : Type} : Lit × DataW H → Nat
  | (.string bytes, d) => bytes.length + uptoBulk d + 1
  | (_, d) => uptoBulk d + 1
 end
def uptoSmall : (H : Type) → List (DataW H) → Bool := fun _ ds => decide (uptoBulkAll ds ≤ 1048576)
def OpenSpec.upto (s : _root_.Go.ChangeSpec) : _root_.Go.OpenSpec := { _root_.Go.OpenSpec.ofChange s with cond := some uptoSmall }

/-- 'truglaw04.VecOrders', WHERE WHAT IT READS IS OF BULK AT MOST 1048576: true; the input reads as it did. -/
def vecOrdersUptoRow : OpenClaim := { program := "ytdkdcjmkhldmlaa", sum := "1c5fe05cce901fc9298a369ff00e1fc7ebfe755a3d4d8a1f164a9dae93e1a324", func := "trug/truglaw04.VecOrders", spec := "vecOrders", apart := false, narrowed := true }
def VecOrdersUptoSaid : Prop := vecOrdersUptoRow.holds Try.pinned (OpenSpec.upto vecOrdersSpec)

/-- 'truglaw04.VecJoins', WHERE WHAT IT READS IS OF BULK AT MOST 1048576: true; the input reads as it did. -/
def vecJoinsUptoRow : OpenClaim := { program := "ytdkdcjmkhldmlaa", sum := "1c5fe05cce901fc9298a369ff00e1fc7ebfe755a3d4d8a1f164a9dae93e1a324", func := "trug/truglaw04.VecJoins", spec := "vecJoins", apart := false, narrowed := true }
def VecJoinsUptoSaid : Prop := vecJoinsUptoRow.holds Try.pinned (OpenSpec.upto vecJoinsSpec)

/-- 'truglaw04.VecDots', WHERE WHAT IT READS IS OF BULK AT MOST 1048576: true; the input reads as it did. -/
def vecDotsUptoRow : OpenClaim := { program := "ytdkdcjmkhldmlaa", sum := "1c5fe05cce901fc9298a369ff00e1fc7ebfe755a3d4d8a1f164a9dae93e1a324", func := "trug/truglaw04.VecDots", spec := "vecDots", apart := false, narrowed := true }
def VecDotsUptoSaid : Prop := vecDotsUptoRow.holds Try.pinned (OpenSpec.upto vecDotsSpec)

/-- 'truglaw04.VecBytes', WHERE WHAT IT READS IS OF BULK AT MOST 1048576: true; the input reads as it did. -/
def vecBytesUptoRow : OpenClaim := { program := "ytdkdcjmkhldmlaa", sum := "1c5fe05cce901fc9298a369ff00e1fc7ebfe755a3d4d8a1f164a9dae93e1a324", func := "trug/truglaw04.VecBytes", spec := "vecBytes", apart := false, narrowed := true }
def VecBytesUptoSaid : Prop := vecBytesUptoRow.holds Try.pinned (OpenSpec.upto vecBytesSpec)

/-- 'truglaw04.VecLattice', WHERE WHAT IT READS IS OF BULK AT MOST 1048576: true; the input reads as it did. -/
def vecLatticeUptoRow : OpenClaim := { program := "ytdkdcjmkhldmlaa", sum := "1c5fe05cce901fc9298a369ff00e1fc7ebfe755a3d4d8a1f164a9dae93e1a324", func := "trug/truglaw04.VecLattice", spec := "vecLattice", apart := false, narrowed := true }
def VecLatticeUptoSaid : Prop := vecLatticeUptoRow.holds Try.pinned (OpenSpec.upto vecLatticeSpec)

/-- 'truglaw04.VecMembers', WHERE WHAT IT READS IS OF BULK AT MOST 1048576: true; the input reads as it did. -/
def vecMembersUptoRow : OpenClaim := { program := "ytdkdcjmkhldmlaa", sum := "1c5fe05cce901fc9298a369ff00e1fc7ebfe755a3d4d8a1f164a9dae93e1a324", func := "trug/truglaw04.VecMembers", spec := "vecMembers", apart := false, narrowed := true }
def VecMembersUptoSaid : Prop := vecMembersUptoRow.holds Try.pinned (OpenSpec.upto vecMembersSpec)

/-- 'truglaw04.VecSums', WHERE WHAT IT READS IS OF BULK AT MOST 1048576: true; the input reads as it did. -/
def vecSumsUptoRow : OpenClaim := { program := "ytdkdcjmkhldmlaa", sum := "1c5fe05cce901fc9298a369ff00e1fc7ebfe755a3d4d8a1f164a9dae93e1a324", func := "trug/truglaw04.VecSums", spec := "vecSums", apart := false, narrowed := true }
def VecSumsUptoSaid : Prop := vecSumsUptoRow.holds Try.pinned (OpenSpec.upto vecSumsSpec)

/-- 'truglaw04.VecFlip', WHERE WHAT IT READS IS OF BULK AT MOST 1048576: true; the input reads as it did. -/
def vecFlipUptoRow : OpenClaim := { program := "ytdkdcjmkhldmlaa", sum := "1c5fe05cce901fc9298a369ff00e1fc7ebfe755a3d4d8a1f164a9dae93e1a324", func := "trug/truglaw04.VecFlip", spec := "vecFlip", apart := false, narrowed := true }
def VecFlipUptoSaid : Prop := vecFlipUptoRow.holds Try.pinned (OpenSpec.upto vecFlipSpec)

end Rows
end Go.Proofs.Ytdkdcjmkhldmlaa
