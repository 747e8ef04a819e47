/-
  No cell of these rows narrows 'for every input' (looked for: loops, veiled, ifaces, maps, wideKeys, modest, calm, conditions, laid).
  DERIVED. THE GIVEN ROWS OF THIS SEAT. 6 by the template 'for every input the law returns true; each argument reads behind the call as it read before'; 0 by the template 'total and deterministic' (their statements: YtmibfbbkjejkmaaTotals.lean).
  GIVEN WITH THE SEED: the statements are not yours to turn. If you find one false, say at which input.
  Laid BY PROGRAM, IN A SANDBOX (cutbox-rows.mjs): the forced cells as the released guide's own fill.sh prints them over the translation aee3a1a898de993f… (all of the seat's roots in one cut). By AI agents, Wed Nov 11 2026. No macro, syntax, notation, axiom, sorry.
-/
import Derived.Test.YtmibfbbkjejkmaaChecked
import GoSem.Claim
import GoSem.ClaimJoined
import GoSem.ClaimMapViews
import Derived.JoinedTies
import Derived.KernelRfl
namespace Go.Proofs.Ytmibfbbkjejkmaa
/- THE CELL 'sum', in the pinned program and in every row, IS THE sha256 OF THE DUMP (.gsa) THAT YtmibfbbkjejkmaaProg.lean LOADS. Nothing in Lean hashes anything: it is a label: what it is worth is what the hold of that sum in a sandbox is worth. -/
noncomputable def Try.pinned : Pinned := { name := "ytmibfbbkjejkmaa", sum := "aee3a1a898de993fee53b77a7787c917114299fdb61adbb3378044c7f4995c80", checked := Try.checked }
namespace Rows
def none {H : Type} : Left H := { results := [], args := [] }

/-- 'truglaw07.FoldParts': WHATEVER THE INPUT: true; the input reads as it did. -/
def foldPartsSpec : ChangeSpec := { name := "foldParts", fn := fun _ => fun
  | [d1, d2] => { results := [.lit (.bool true)], args := [d1, d2] }
  | _ => none }
def foldPartsRow : OpenClaim := { program := "ytmibfbbkjejkmaa", sum := "aee3a1a898de993fee53b77a7787c917114299fdb61adbb3378044c7f4995c80", func := "trug/truglaw07.FoldParts", spec := "foldParts", unfollowed := true, recurses := true, plainKeys := false, apart := false }
def FoldPartsSaid : Prop := foldPartsRow.holds Try.pinned (OpenSpec.ofChange foldPartsSpec)

/-- ITS FALSE NEIGHBOUR: 'it returns false'. Refute it at one input. -/
def foldPartsWrong : ChangeSpec := { name := "foldParts", fn := fun _ => fun
  | [d1, d2] => { results := [.lit (.bool false)], args := [d1, d2] }
  | _ => none }
def FoldPartsWrongFalsely : Prop := foldPartsRow.holds Try.pinned (OpenSpec.ofChange foldPartsWrong)

/-- 'truglaw07.FoldAny': WHATEVER THE INPUT: true; the input reads as it did. -/
def foldAnySpec : ChangeSpec := { name := "foldAny", fn := fun _ => fun
  | [d1, d2, d3] => { results := [.lit (.bool true)], args := [d1, d2, d3] }
  | _ => none }
def foldAnyRow : OpenClaim := { program := "ytmibfbbkjejkmaa", sum := "aee3a1a898de993fee53b77a7787c917114299fdb61adbb3378044c7f4995c80", func := "trug/truglaw07.FoldAny", spec := "foldAny", unfollowed := true, recurses := true, plainKeys := false, apart := false }
def FoldAnySaid : Prop := foldAnyRow.holds Try.pinned (OpenSpec.ofChange foldAnySpec)

/-- ITS FALSE NEIGHBOUR: 'it returns false'. Refute it at one input. -/
def foldAnyWrong : ChangeSpec := { name := "foldAny", fn := fun _ => fun
  | [d1, d2, d3] => { results := [.lit (.bool false)], args := [d1, d2, d3] }
  | _ => none }
def FoldAnyWrongFalsely : Prop := foldAnyRow.holds Try.pinned (OpenSpec.ofChange foldAnyWrong)

/-- 'truglaw07.FoldOthers': WHATEVER THE INPUT: true; the input reads as it did. -/
def foldOthersSpec : ChangeSpec := { name := "foldOthers", fn := fun _ => fun
  | [d1, d2] => { results := [.lit (.bool true)], args := [d1, d2] }
  | _ => none }
def foldOthersRow : OpenClaim := { program := "ytmibfbbkjejkmaa", sum := "aee3a1a898de993fee53b77a7787c917114299fdb61adbb3378044c7f4995c80", func := "trug/truglaw07.FoldOthers", spec := "foldOthers", unfollowed := true, recurses := true, plainKeys := false, apart := false }
def FoldOthersSaid : Prop := foldOthersRow.holds Try.pinned (OpenSpec.ofChange foldOthersSpec)

/-- ITS FALSE NEIGHBOUR: 'it returns false'. Refute it at one input. -/
def foldOthersWrong : ChangeSpec := { name := "foldOthers", fn := fun _ => fun
  | [d1, d2] => { results := [.lit (.bool false)], args := [d1, d2] }
  | _ => none }
def FoldOthersWrongFalsely : Prop := foldOthersRow.holds Try.pinned (OpenSpec.ofChange foldOthersWrong)

/-- 'truglaw07.FoldClosed': WHATEVER THE INPUT: true; the input reads as it did. -/
def foldClosedSpec : ChangeSpec := { name := "foldClosed", fn := fun _ => fun
  | [d1, d2] => { results := [.lit (.bool true)], args := [d1, d2] }
  | _ => none }
def foldClosedRow : OpenClaim := { program := "ytmibfbbkjejkmaa", sum := "aee3a1a898de993fee53b77a7787c917114299fdb61adbb3378044c7f4995c80", func := "trug/truglaw07.FoldClosed", spec := "foldClosed", unfollowed := true, recurses := true, plainKeys := false, apart := false }
def FoldClosedSaid : Prop := foldClosedRow.holds Try.pinned (OpenSpec.ofChange foldClosedSpec)

/-- ITS FALSE NEIGHBOUR: 'it returns false'. Refute it at one input. -/
def foldClosedWrong : ChangeSpec := { name := "foldClosed", fn := fun _ => fun
  | [d1, d2] => { results := [.lit (.bool false)], args := [d1, d2] }
  | _ => none }
def FoldClosedWrongFalsely : Prop := foldClosedRow.holds Try.pinned (OpenSpec.ofChange foldClosedWrong)

/-- 'truglaw07.FoldAdds': WHATEVER THE INPUT: true; the input reads as it did. -/
def foldAddsSpec : ChangeSpec := { name := "foldAdds", fn := fun _ => fun
  | [d1, d2] => { results := [.lit (.bool true)], args := [d1, d2] }
  | _ => none }
def foldAddsRow : OpenClaim := { program := "ytmibfbbkjejkmaa", sum := "aee3a1a898de993fee53b77a7787c917114299fdb61adbb3378044c7f4995c80", func := "trug/truglaw07.FoldAdds", spec := "foldAdds", unfollowed := true, recurses := true, plainKeys := false, apart := false }
def FoldAddsSaid : Prop := foldAddsRow.holds Try.pinned (OpenSpec.ofChange foldAddsSpec)

/-- ITS FALSE NEIGHBOUR: 'it returns false'. Refute it at one input. -/
def foldAddsWrong : ChangeSpec := { name := "foldAdds", fn := fun _ => fun
  | [d1, d2] => { results := [.lit (.bool false)], args := [d1, d2] }
  | _ => none }
def FoldAddsWrongFalsely : Prop := foldAddsRow.holds Try.pinned (OpenSpec.ofChange foldAddsWrong)

/-- 'truglaw07.FoldTicks': WHATEVER THE INPUT: true; the input reads as it did. -/
def foldTicksSpec : ChangeSpec := { name := "foldTicks", fn := fun _ => fun
  | [d1, d2] => { results := [.lit (.bool true)], args := [d1, d2] }
  | _ => none }
def foldTicksRow : OpenClaim := { program := "ytmibfbbkjejkmaa", sum := "aee3a1a898de993fee53b77a7787c917114299fdb61adbb3378044c7f4995c80", func := "trug/truglaw07.FoldTicks", spec := "foldTicks", unfollowed := true, recurses := true, plainKeys := false, apart := false }
def FoldTicksSaid : Prop := foldTicksRow.holds Try.pinned (OpenSpec.ofChange foldTicksSpec)

/-- ITS FALSE NEIGHBOUR: 'it returns false'. Refute it at one input. -/
def foldTicksWrong : ChangeSpec := { name := "foldTicks", fn := fun _ => fun
  | [d1, d2] => { results := [.lit (.bool false)], args := [d1, d2] }
  | _ => none }
def FoldTicksWrongFalsely : Prop := foldTicksRow.holds Try.pinned (OpenSpec.ofChange foldTicksWrong)

/- THE SECOND FORM. 'bulk': how many values and letters a reading holds, each counted each time it is reached (what is shared counts as often as it is met; a slice's spare places count too). A statement '..UptoSaid' is the law's where the arguments, and the package variables that the reading takes, are together of bulk at most 1048576: NARROWER than '..Said'. Prove '..Said' where nothing that the law and all that it calls make is longer than what came in: it says more and counts as full. Else prove '..UptoSaid'. A law counts once. -/
mutual
def uptoBulk {H : Type} : DataW H → Nat
  | .lit (.string bytes) => bytes.length + 1
  | .lit _ => 1
  | .nil => 1
  | .ptr d => uptoBulk d + 1
  | .slice elems spare => uptoBulkAll elems + uptoBulkAll spare + 1
  | .agg parts => uptoBulkAll parts + 1
  | .iface _ d => uptoBulk d + 1
  | .map entries => uptoBulkEntries entries + 1
  | .held _ => 1
def uptoBulkAll {H : Type} : List (DataW H) → Nat
  | [] => 0
  | d :: r => uptoBulk d + uptoBulkAll r
def uptoBulkEntries {H : Type} : List (Lit × DataW H) → Nat
  | [] => 0
  | x :: r => uptoBulkEntry x + uptoBulkEntries r
def uptoBulkEntry {H : Type} : Lit × DataW H → Nat
  | (.string bytes, d) => bytes.length + uptoBulk d + 1
  | (_, d) => uptoBulk d + 1
 end
def uptoSmall : (H : Type) → List (DataW H) → Bool := fun _ ds => decide (uptoBulkAll ds ≤ 1048576)
def OpenSpec.upto (s : _root_.Go.ChangeSpec) : _root_.Go.OpenSpec := { _root_.Go.OpenSpec.ofChange s with cond := some uptoSmall }

/-- 'truglaw07.FoldParts', WHERE WHAT IT READS IS OF BULK AT MOST 1048576: true; the input reads as it did. -/
def foldPartsUptoRow : OpenClaim := { program := "ytmibfbbkjejkmaa", sum := "aee3a1a898de993fee53b77a7787c917114299fdb61adbb3378044c7f4995c80", func := "trug/truglaw07.FoldParts", spec := "foldParts", unfollowed := true, recurses := true, plainKeys := false, apart := false, narrowed := true }
def FoldPartsUptoSaid : Prop := foldPartsUptoRow.holds Try.pinned (OpenSpec.upto foldPartsSpec)

/-- 'truglaw07.FoldAny', WHERE WHAT IT READS IS OF BULK AT MOST 1048576: true; the input reads as it did. -/
def foldAnyUptoRow : OpenClaim := { program := "ytmibfbbkjejkmaa", sum := "aee3a1a898de993fee53b77a7787c917114299fdb61adbb3378044c7f4995c80", func := "trug/truglaw07.FoldAny", spec := "foldAny", unfollowed := true, recurses := true, plainKeys := false, apart := false, narrowed := true }
def FoldAnyUptoSaid : Prop := foldAnyUptoRow.holds Try.pinned (OpenSpec.upto foldAnySpec)

/-- 'truglaw07.FoldOthers', WHERE WHAT IT READS IS OF BULK AT MOST 1048576: true; the input reads as it did. -/
def foldOthersUptoRow : OpenClaim := { program := "ytmibfbbkjejkmaa", sum := "aee3a1a898de993fee53b77a7787c917114299fdb61adbb3378044c7f4995c80", func := "trug/truglaw07.FoldOthers", spec := "foldOthers", unfollowed := true, recurses := true, plainKeys := false, apart := false, narrowed := true }
def FoldOthersUptoSaid : Prop := foldOthersUptoRow.holds Try.pinned (OpenSpec.upto foldOthersSpec)

/-- 'truglaw07.FoldClosed', WHERE WHAT IT READS IS OF BULK AT MOST 1048576: true; the input reads as it did. -/
def foldClosedUptoRow : OpenClaim := { program := "ytmibfbbkjejkmaa", sum := "aee3a1a898de993fee53b77a7787c917114299fdb61adbb3378044c7f4995c80", func := "trug/truglaw07.FoldClosed", spec := "foldClosed", unfollowed := true, recurses := true, plainKeys := false, apart := false, narrowed := true }
def FoldClosedUptoSaid : Prop := foldClosedUptoRow.holds Try.pinned (OpenSpec.upto foldClosedSpec)

/-- 'truglaw07.FoldAdds', WHERE WHAT IT READS IS OF BULK AT MOST 1048576: true; the input reads as it did. -/
def foldAddsUptoRow : OpenClaim := { program := "ytmibfbbkjejkmaa", sum := "aee3a1a898de993fee53b77a7787c917114299fdb61adbb3378044c7f4995c80", func := "trug/truglaw07.FoldAdds", spec := "foldAdds", unfollowed := true, recurses := true, plainKeys := false, apart := false, narrowed := true }
def FoldAddsUptoSaid : Prop := foldAddsUptoRow.holds Try.pinned (OpenSpec.upto foldAddsSpec)

/-- 'truglaw07.FoldTicks', WHERE WHAT IT READS IS OF BULK AT MOST 1048576: true; the input reads as it did. -/
def foldTicksUptoRow : OpenClaim := { program := "ytmibfbbkjejkmaa", sum := "aee3a1a898de993fee53b77a7787c917114299fdb61adbb3378044c7f4995c80", func := "trug/truglaw07.FoldTicks", spec := "foldTicks", unfollowed := true, recurses := true, plainKeys := false, apart := false, narrowed := true }
def FoldTicksUptoSaid : Prop := foldTicksUptoRow.holds Try.pinned (OpenSpec.upto foldTicksSpec)

end Rows
end Go.Proofs.Ytmibfbbkjejkmaa
