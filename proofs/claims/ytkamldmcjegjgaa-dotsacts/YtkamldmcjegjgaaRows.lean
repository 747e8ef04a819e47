/-
  No cell of these rows narrows 'for every input' (looked for: loops, veiled, ifaces, maps, wideKeys, modest, calm, conditions, laid).
  DERIVED. THE GIVEN ROWS OF THIS SEAT. 6 by the template 'for every input the law returns true; each argument reads behind the call as it read before'; 0 by the template 'total and deterministic' (their statements: YtkamldmcjegjgaaTotals.lean).
  GIVEN WITH THE SEED: the statements are not yours to turn. If you find one false, say at which input.
  Laid BY PROGRAM, IN A SANDBOX (cutbox-rows.mjs): the forced cells as the released guide's own fill.sh prints them over the translation 8bccacc848882943… (all of the seat's roots in one cut). By AI agents, Wed Nov 11 2026. No macro, syntax, notation, axiom, sorry.
-/
import Derived.Test.YtkamldmcjegjgaaChecked
import GoSem.Claim
import GoSem.ClaimJoined
import GoSem.ClaimMapViews
import Derived.JoinedTies
import Derived.KernelRfl
namespace Go.Proofs.Ytkamldmcjegjgaa
/- THE CELL 'sum', in the pinned program and in every row, IS THE sha256 OF THE DUMP (.gsa) THAT YtkamldmcjegjgaaProg.lean LOADS. Nothing in Lean hashes anything: it is a label: what it is worth is what the hold of that sum in a sandbox is worth. -/
noncomputable def Try.pinned : Pinned := { name := "ytkamldmcjegjgaa", sum := "8bccacc848882943306eadc45b3f5bce615ecf5a8668afbb7c577da0deaac1e1", checked := Try.checked }
namespace Rows
def none {H : Type} : Left H := { results := [], args := [] }

/-- 'truglaw05.DotsActs': WHATEVER THE INPUT: true; the input reads as it did. -/
def dotsActsSpec : ChangeSpec := { name := "dotsActs", fn := fun _ => fun
  | [d1, d2] => { results := [.lit (.bool true)], args := [d1, d2] }
  | _ => none }
def dotsActsRow : OpenClaim := { program := "ytkamldmcjegjgaa", sum := "8bccacc848882943306eadc45b3f5bce615ecf5a8668afbb7c577da0deaac1e1", func := "trug/truglaw05.DotsActs", spec := "dotsActs", unfollowed := true, recurses := true, plainKeys := false, apart := false }
def DotsActsSaid : Prop := dotsActsRow.holds Try.pinned (OpenSpec.ofChange dotsActsSpec)

/-- ITS FALSE NEIGHBOUR: 'it returns false'. Refute it at one input. -/
def dotsActsWrong : ChangeSpec := { name := "dotsActs", fn := fun _ => fun
  | [d1, d2] => { results := [.lit (.bool false)], args := [d1, d2] }
  | _ => none }
def DotsActsWrongFalsely : Prop := dotsActsRow.holds Try.pinned (OpenSpec.ofChange dotsActsWrong)

/-- 'truglaw05.DotsAny': WHATEVER THE INPUT: true; the input reads as it did. -/
def dotsAnySpec : ChangeSpec := { name := "dotsAny", fn := fun _ => fun
  | [d1, d2, d3] => { results := [.lit (.bool true)], args := [d1, d2, d3] }
  | _ => none }
def dotsAnyRow : OpenClaim := { program := "ytkamldmcjegjgaa", sum := "8bccacc848882943306eadc45b3f5bce615ecf5a8668afbb7c577da0deaac1e1", func := "trug/truglaw05.DotsAny", spec := "dotsAny", unfollowed := true, recurses := true, plainKeys := false, apart := false }
def DotsAnySaid : Prop := dotsAnyRow.holds Try.pinned (OpenSpec.ofChange dotsAnySpec)

/-- ITS FALSE NEIGHBOUR: 'it returns false'. Refute it at one input. -/
def dotsAnyWrong : ChangeSpec := { name := "dotsAny", fn := fun _ => fun
  | [d1, d2, d3] => { results := [.lit (.bool false)], args := [d1, d2, d3] }
  | _ => none }
def DotsAnyWrongFalsely : Prop := dotsAnyRow.holds Try.pinned (OpenSpec.ofChange dotsAnyWrong)

/-- 'truglaw05.DotsBegin': WHATEVER THE INPUT: true; the input reads as it did. -/
def dotsBeginSpec : ChangeSpec := { name := "dotsBegin", fn := fun _ => fun
  | [d1, d2] => { results := [.lit (.bool true)], args := [d1, d2] }
  | _ => none }
def dotsBeginRow : OpenClaim := { program := "ytkamldmcjegjgaa", sum := "8bccacc848882943306eadc45b3f5bce615ecf5a8668afbb7c577da0deaac1e1", func := "trug/truglaw05.DotsBegin", spec := "dotsBegin", unfollowed := true, recurses := true, plainKeys := false, apart := false }
def DotsBeginSaid : Prop := dotsBeginRow.holds Try.pinned (OpenSpec.ofChange dotsBeginSpec)

/-- ITS FALSE NEIGHBOUR: 'it returns false'. Refute it at one input. -/
def dotsBeginWrong : ChangeSpec := { name := "dotsBegin", fn := fun _ => fun
  | [d1, d2] => { results := [.lit (.bool false)], args := [d1, d2] }
  | _ => none }
def DotsBeginWrongFalsely : Prop := dotsBeginRow.holds Try.pinned (OpenSpec.ofChange dotsBeginWrong)

/-- 'truglaw05.DotsGrow': WHATEVER THE INPUT: true; the input reads as it did. -/
def dotsGrowSpec : ChangeSpec := { name := "dotsGrow", fn := fun _ => fun
  | [d1, d2] => { results := [.lit (.bool true)], args := [d1, d2] }
  | _ => none }
def dotsGrowRow : OpenClaim := { program := "ytkamldmcjegjgaa", sum := "8bccacc848882943306eadc45b3f5bce615ecf5a8668afbb7c577da0deaac1e1", func := "trug/truglaw05.DotsGrow", spec := "dotsGrow", unfollowed := true, recurses := true, plainKeys := false, apart := false }
def DotsGrowSaid : Prop := dotsGrowRow.holds Try.pinned (OpenSpec.ofChange dotsGrowSpec)

/-- ITS FALSE NEIGHBOUR: 'it returns false'. Refute it at one input. -/
def dotsGrowWrong : ChangeSpec := { name := "dotsGrow", fn := fun _ => fun
  | [d1, d2] => { results := [.lit (.bool false)], args := [d1, d2] }
  | _ => none }
def DotsGrowWrongFalsely : Prop := dotsGrowRow.holds Try.pinned (OpenSpec.ofChange dotsGrowWrong)

/-- 'truglaw05.DotsNobody': WHATEVER THE INPUT: true; the input reads as it did. -/
def dotsNobodySpec : ChangeSpec := { name := "dotsNobody", fn := fun _ => fun
  | [d] => { results := [.lit (.bool true)], args := [d] }
  | _ => none }
def dotsNobodyRow : OpenClaim := { program := "ytkamldmcjegjgaa", sum := "8bccacc848882943306eadc45b3f5bce615ecf5a8668afbb7c577da0deaac1e1", func := "trug/truglaw05.DotsNobody", spec := "dotsNobody", unfollowed := true, recurses := true, plainKeys := false, apart := false }
def DotsNobodySaid : Prop := dotsNobodyRow.holds Try.pinned (OpenSpec.ofChange dotsNobodySpec)

/-- ITS FALSE NEIGHBOUR: 'it returns false'. Refute it at one input. -/
def dotsNobodyWrong : ChangeSpec := { name := "dotsNobody", fn := fun _ => fun
  | [d] => { results := [.lit (.bool false)], args := [d] }
  | _ => none }
def DotsNobodyWrongFalsely : Prop := dotsNobodyRow.holds Try.pinned (OpenSpec.ofChange dotsNobodyWrong)

/-- 'truglaw05.DotsParts': WHATEVER THE INPUT: true; the input reads as it did. -/
def dotsPartsSpec : ChangeSpec := { name := "dotsParts", fn := fun _ => fun
  | [d1, d2, d3] => { results := [.lit (.bool true)], args := [d1, d2, d3] }
  | _ => none }
def dotsPartsRow : OpenClaim := { program := "ytkamldmcjegjgaa", sum := "8bccacc848882943306eadc45b3f5bce615ecf5a8668afbb7c577da0deaac1e1", func := "trug/truglaw05.DotsParts", spec := "dotsParts", unfollowed := true, recurses := true, plainKeys := false, apart := false }
def DotsPartsSaid : Prop := dotsPartsRow.holds Try.pinned (OpenSpec.ofChange dotsPartsSpec)

/-- ITS FALSE NEIGHBOUR: 'it returns false'. Refute it at one input. -/
def dotsPartsWrong : ChangeSpec := { name := "dotsParts", fn := fun _ => fun
  | [d1, d2, d3] => { results := [.lit (.bool false)], args := [d1, d2, d3] }
  | _ => none }
def DotsPartsWrongFalsely : Prop := dotsPartsRow.holds Try.pinned (OpenSpec.ofChange dotsPartsWrong)

/- THE SECOND FORM. 'bulk': how many values and letters a reading holds, each counted each time it is reached (what is shared counts as often as it is met; a slice's spare places count too). A statement '..UptoSaid' is the law's where the arguments, and the package variables that the reading takes, are together of bulk at most 1048576: NARROWER than '..Said'. Prove '..Said' where nothing that the law and all that it calls make is longer than what came in: it says more and counts as full. Else prove '..UptoSaid'. A law counts once. -/
mutual
def uptoBulk {H : Type} : DataW H → Nat
  | .lit (.string bytes) => bytes.length + 1
  | .lit _ => 1
  | .nil => 1
  | .ptr d => uptoBulk d + 1
  | .slice elems spare => uptoBulkAll elems + uptoBulkAll spare + 1
  | .agg parts => uptoBulkAll parts + 1
  | .iface _ d => uptoBulk d + 1
  | .map entries => uptoBulkEntries entries + 1
  | .held _ => 1
def uptoBulkAll {H : Type} : List (DataW H) → Nat
  | [] => 0
  | d :: r => uptoBulk d + uptoBulkAll r
def uptoBulkEntries {H : Type} : List (Lit × DataW H) → Nat
  | [] => 0
  | x :: r => uptoBulkEntry x + uptoBulkEntries r
def uptoBulkEntry {H : Type} : Lit × DataW H → Nat
  | (.string bytes, d) => bytes.length + uptoBulk d + 1
  | (_, d) => uptoBulk d + 1
 end
def uptoSmall : (H : Type) → List (DataW H) → Bool := fun _ ds => decide (uptoBulkAll ds ≤ 1048576)
def OpenSpec.upto (s : _root_.Go.ChangeSpec) : _root_.Go.OpenSpec := { _root_.Go.OpenSpec.ofChange s with cond := some uptoSmall }

/-- 'truglaw05.DotsActs', WHERE WHAT IT READS IS OF BULK AT MOST 1048576: true; the input reads as it did. -/
def dotsActsUptoRow : OpenClaim := { program := "ytkamldmcjegjgaa", sum := "8bccacc848882943306eadc45b3f5bce615ecf5a8668afbb7c577da0deaac1e1", func := "trug/truglaw05.DotsActs", spec := "dotsActs", unfollowed := true, recurses := true, plainKeys := false, apart := false, narrowed := true }
def DotsActsUptoSaid : Prop := dotsActsUptoRow.holds Try.pinned (OpenSpec.upto dotsActsSpec)

/-- 'truglaw05.DotsAny', WHERE WHAT IT READS IS OF BULK AT MOST 1048576: true; the input reads as it did. -/
def dotsAnyUptoRow : OpenClaim := { program := "ytkamldmcjegjgaa", sum := "8bccacc848882943306eadc45b3f5bce615ecf5a8668afbb7c577da0deaac1e1", func := "trug/truglaw05.DotsAny", spec := "dotsAny", unfollowed := true, recurses := true, plainKeys := false, apart := false, narrowed := true }
def DotsAnyUptoSaid : Prop := dotsAnyUptoRow.holds Try.pinned (OpenSpec.upto dotsAnySpec)

/-- 'truglaw05.DotsBegin', WHERE WHAT IT READS IS OF BULK AT MOST 1048576: true; the input reads as it did. -/
def dotsBeginUptoRow : OpenClaim := { program := "ytkamldmcjegjgaa", sum := "8bccacc848882943306eadc45b3f5bce615ecf5a8668afbb7c577da0deaac1e1", func := "trug/truglaw05.DotsBegin", spec := "dotsBegin", unfollowed := true, recurses := true, plainKeys := false, apart := false, narrowed := true }
def DotsBeginUptoSaid : Prop := dotsBeginUptoRow.holds Try.pinned (OpenSpec.upto dotsBeginSpec)

/-- 'truglaw05.DotsGrow', WHERE WHAT IT READS IS OF BULK AT MOST 1048576: true; the input reads as it did. -/
def dotsGrowUptoRow : OpenClaim := { program := "ytkamldmcjegjgaa", sum := "8bccacc848882943306eadc45b3f5bce615ecf5a8668afbb7c577da0deaac1e1", func := "trug/truglaw05.DotsGrow", spec := "dotsGrow", unfollowed := true, recurses := true, plainKeys := false, apart := false, narrowed := true }
def DotsGrowUptoSaid : Prop := dotsGrowUptoRow.holds Try.pinned (OpenSpec.upto dotsGrowSpec)

/-- 'truglaw05.DotsNobody', WHERE WHAT IT READS IS OF BULK AT MOST 1048576: true; the input reads as it did. -/
def dotsNobodyUptoRow : OpenClaim := { program := "ytkamldmcjegjgaa", sum := "8bccacc848882943306eadc45b3f5bce615ecf5a8668afbb7c577da0deaac1e1", func := "trug/truglaw05.DotsNobody", spec := "dotsNobody", unfollowed := true, recurses := true, plainKeys := false, apart := false, narrowed := true }
def DotsNobodyUptoSaid : Prop := dotsNobodyUptoRow.holds Try.pinned (OpenSpec.upto dotsNobodySpec)

/-- 'truglaw05.DotsParts', WHERE WHAT IT READS IS OF BULK AT MOST 1048576: true; the input reads as it did. -/
def dotsPartsUptoRow : OpenClaim := { program := "ytkamldmcjegjgaa", sum := "8bccacc848882943306eadc45b3f5bce615ecf5a8668afbb7c577da0deaac1e1", func := "trug/truglaw05.DotsParts", spec := "dotsParts", unfollowed := true, recurses := true, plainKeys := false, apart := false, narrowed := true }
def DotsPartsUptoSaid : Prop := dotsPartsUptoRow.holds Try.pinned (OpenSpec.upto dotsPartsSpec)

end Rows
end Go.Proofs.Ytkamldmcjegjgaa
