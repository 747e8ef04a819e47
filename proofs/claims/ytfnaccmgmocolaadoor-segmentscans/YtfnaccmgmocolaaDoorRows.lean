/-
  NARROWER THAN 'FOR EVERY INPUT', by the rows' own cells (each row's printed sentence says how): SegmentParts: laid · SegmentScans: laid · SegmentBack: laid · SegmentTail: laid · SegmentPlaces: laid · SegmentNew: laid.
  DERIVED. THE GIVEN ROWS OF THIS SEAT. 6 by the template 'for every input the law returns true; each argument reads behind the call as it read before'; 0 by the template 'total and deterministic' (their statements: YtfnaccmgmocolaaDoorTotals.lean).
  GIVEN WITH THE SEED: the statements are not yours to turn. If you find one false, say at which input.
  Laid BY PROGRAM, IN A SANDBOX (cutbox-rows.mjs): the forced cells as the released guide's own fill.sh prints them over the translation f09e9974abcfca54… (all of the seat's roots in one cut). By AI agents, Wed Nov 11 2026. No macro, syntax, notation, axiom, sorry.
-/
import Derived.Test.YtfnaccmgmocolaaDoorChecked
import GoSem.Claim
import GoSem.ClaimJoined
import GoSem.ClaimMapViews
import Derived.JoinedTies
import Derived.KernelRfl
namespace Go.Proofs.YtfnaccmgmocolaaDoor
/- THE CELL 'sum', in the pinned program and in every row, IS THE sha256 OF THE DUMP (.gsa) THAT YtfnaccmgmocolaaDoorProg.lean LOADS. Nothing in Lean hashes anything: it is a label: what it is worth is what the hold of that sum in a sandbox is worth. -/
noncomputable def Tryd.pinned : Pinned := { name := "ytfnaccmgmocolaadoor", sum := "f09e9974abcfca542e913b98c1ac280f702464cf48b874c9fd79b3146607a54a", checked := Tryd.checked }
namespace Rows
def none {H : Type} : Left H := { results := [], args := [] }

/- WHAT THE LISTED PACKAGE-LEVEL VARIABLES READ AS WHEN THE CALL BEGINS. Each datum BY PROGRAM (the guide's laid-datum.mjs) off the statement by which the dump's own 'gosem.cut.vars' lays the variable. In a bare row this is a premise. The card (YtfnaccmgmocolaaDoorCards.lean) ties it to the program's text. -/
def laid_trug_crc_effects {H : Type} : DataW H := .agg [.lit (.int .u32 0), .lit (.int .u32 498536548), .lit (.int .u32 997073096), .lit (.int .u32 651767980), .lit (.int .u32 1994146192), .lit (.int .u32 1802195444), .lit (.int .u32 1303535960), .lit (.int .u32 1342533948), .lit (.int .u32 3988292384), .lit (.int .u32 4027552580), .lit (.int .u32 3604390888), .lit (.int .u32 3412177804), .lit (.int .u32 2607071920), .lit (.int .u32 2262029012), .lit (.int .u32 2685067896), .lit (.int .u32 3183342108)]

/-- 'truglaw12.SegmentParts': WHATEVER THE INPUT: true; the input reads as it did. -/
def segmentPartsSpec : ChangeSpec := { name := "segmentParts", fn := fun _ => fun
  | [d1, d2, d3] => { results := [.lit (.bool true)], args := [d1, d2, d3] }
  | _ => none }
def segmentPartsRow : OpenClaim := { program := "ytfnaccmgmocolaadoor", sum := "f09e9974abcfca542e913b98c1ac280f702464cf48b874c9fd79b3146607a54a", func := "trug/truglaw12.SegmentParts", spec := "segmentParts", unfollowed := true, recurses := true, named := ["trug/crc.effects"], apart := false, laid := [("trug/crc.effects", laid_trug_crc_effects)] }
def SegmentPartsSaid : Prop := segmentPartsRow.holds Tryd.pinned (OpenSpec.ofChange segmentPartsSpec)

/-- ITS FALSE NEIGHBOUR: 'it returns false'. Refute it at one input. -/
def segmentPartsWrong : ChangeSpec := { name := "segmentParts", fn := fun _ => fun
  | [d1, d2, d3] => { results := [.lit (.bool false)], args := [d1, d2, d3] }
  | _ => none }
def SegmentPartsWrongFalsely : Prop := segmentPartsRow.holds Tryd.pinned (OpenSpec.ofChange segmentPartsWrong)

/-- 'truglaw12.SegmentScans': WHATEVER THE INPUT: true; the input reads as it did. -/
def segmentScansSpec : ChangeSpec := { name := "segmentScans", fn := fun _ => fun
  | [d] => { results := [.lit (.bool true)], args := [d] }
  | _ => none }
def segmentScansRow : OpenClaim := { program := "ytfnaccmgmocolaadoor", sum := "f09e9974abcfca542e913b98c1ac280f702464cf48b874c9fd79b3146607a54a", func := "trug/truglaw12.SegmentScans", spec := "segmentScans", unfollowed := true, recurses := true, named := ["trug/crc.effects"], apart := false, laid := [("trug/crc.effects", laid_trug_crc_effects)] }
def SegmentScansSaid : Prop := segmentScansRow.holds Tryd.pinned (OpenSpec.ofChange segmentScansSpec)

/-- ITS FALSE NEIGHBOUR: 'it returns false'. Refute it at one input. -/
def segmentScansWrong : ChangeSpec := { name := "segmentScans", fn := fun _ => fun
  | [d] => { results := [.lit (.bool false)], args := [d] }
  | _ => none }
def SegmentScansWrongFalsely : Prop := segmentScansRow.holds Tryd.pinned (OpenSpec.ofChange segmentScansWrong)

/-- 'truglaw12.SegmentBack': WHATEVER THE INPUT: true; the input reads as it did. -/
def segmentBackSpec : ChangeSpec := { name := "segmentBack", fn := fun _ => fun
  | [d1, d2, d3] => { results := [.lit (.bool true)], args := [d1, d2, d3] }
  | _ => none }
def segmentBackRow : OpenClaim := { program := "ytfnaccmgmocolaadoor", sum := "f09e9974abcfca542e913b98c1ac280f702464cf48b874c9fd79b3146607a54a", func := "trug/truglaw12.SegmentBack", spec := "segmentBack", unfollowed := true, recurses := true, named := ["trug/crc.effects"], apart := false, laid := [("trug/crc.effects", laid_trug_crc_effects)] }
def SegmentBackSaid : Prop := segmentBackRow.holds Tryd.pinned (OpenSpec.ofChange segmentBackSpec)

/-- ITS FALSE NEIGHBOUR: 'it returns false'. Refute it at one input. -/
def segmentBackWrong : ChangeSpec := { name := "segmentBack", fn := fun _ => fun
  | [d1, d2, d3] => { results := [.lit (.bool false)], args := [d1, d2, d3] }
  | _ => none }
def SegmentBackWrongFalsely : Prop := segmentBackRow.holds Tryd.pinned (OpenSpec.ofChange segmentBackWrong)

/-- 'truglaw12.SegmentTail': WHATEVER THE INPUT: true; the input reads as it did. -/
def segmentTailSpec : ChangeSpec := { name := "segmentTail", fn := fun _ => fun
  | [d1, d2, d3] => { results := [.lit (.bool true)], args := [d1, d2, d3] }
  | _ => none }
def segmentTailRow : OpenClaim := { program := "ytfnaccmgmocolaadoor", sum := "f09e9974abcfca542e913b98c1ac280f702464cf48b874c9fd79b3146607a54a", func := "trug/truglaw12.SegmentTail", spec := "segmentTail", unfollowed := true, recurses := true, named := ["trug/crc.effects"], apart := false, laid := [("trug/crc.effects", laid_trug_crc_effects)] }
def SegmentTailSaid : Prop := segmentTailRow.holds Tryd.pinned (OpenSpec.ofChange segmentTailSpec)

/-- ITS FALSE NEIGHBOUR: 'it returns false'. Refute it at one input. -/
def segmentTailWrong : ChangeSpec := { name := "segmentTail", fn := fun _ => fun
  | [d1, d2, d3] => { results := [.lit (.bool false)], args := [d1, d2, d3] }
  | _ => none }
def SegmentTailWrongFalsely : Prop := segmentTailRow.holds Tryd.pinned (OpenSpec.ofChange segmentTailWrong)

/-- 'truglaw12.SegmentPlaces': WHATEVER THE INPUT: true; the input reads as it did. -/
def segmentPlacesSpec : ChangeSpec := { name := "segmentPlaces", fn := fun _ => fun
  | [d1, d2] => { results := [.lit (.bool true)], args := [d1, d2] }
  | _ => none }
def segmentPlacesRow : OpenClaim := { program := "ytfnaccmgmocolaadoor", sum := "f09e9974abcfca542e913b98c1ac280f702464cf48b874c9fd79b3146607a54a", func := "trug/truglaw12.SegmentPlaces", spec := "segmentPlaces", unfollowed := true, recurses := true, named := ["trug/crc.effects"], apart := false, laid := [("trug/crc.effects", laid_trug_crc_effects)] }
def SegmentPlacesSaid : Prop := segmentPlacesRow.holds Tryd.pinned (OpenSpec.ofChange segmentPlacesSpec)

/-- ITS FALSE NEIGHBOUR: 'it returns false'. Refute it at one input. -/
def segmentPlacesWrong : ChangeSpec := { name := "segmentPlaces", fn := fun _ => fun
  | [d1, d2] => { results := [.lit (.bool false)], args := [d1, d2] }
  | _ => none }
def SegmentPlacesWrongFalsely : Prop := segmentPlacesRow.holds Tryd.pinned (OpenSpec.ofChange segmentPlacesWrong)

/-- 'truglaw12.SegmentNew': WHATEVER THE INPUT: true; the input reads as it did. -/
def segmentNewSpec : ChangeSpec := { name := "segmentNew", fn := fun _ => fun
  | [d] => { results := [.lit (.bool true)], args := [d] }
  | _ => none }
def segmentNewRow : OpenClaim := { program := "ytfnaccmgmocolaadoor", sum := "f09e9974abcfca542e913b98c1ac280f702464cf48b874c9fd79b3146607a54a", func := "trug/truglaw12.SegmentNew", spec := "segmentNew", unfollowed := true, recurses := true, named := ["trug/crc.effects"], apart := false, laid := [("trug/crc.effects", laid_trug_crc_effects)] }
def SegmentNewSaid : Prop := segmentNewRow.holds Tryd.pinned (OpenSpec.ofChange segmentNewSpec)

/-- ITS FALSE NEIGHBOUR: 'it returns false'. Refute it at one input. -/
def segmentNewWrong : ChangeSpec := { name := "segmentNew", fn := fun _ => fun
  | [d] => { results := [.lit (.bool false)], args := [d] }
  | _ => none }
def SegmentNewWrongFalsely : Prop := segmentNewRow.holds Tryd.pinned (OpenSpec.ofChange segmentNewWrong)

/- THE SECOND FORM. 'bulk': how many values and letters a reading holds, each counted each time it is reached (what is shared counts as often as it is met; a slice's spare places count too). A statement '..UptoSaid' is the law's where the arguments, and the package variables that the reading takes, are together of bulk at most 1048576: NARROWER than '..Said'. Prove '..Said' where nothing that the law and all that it calls make is longer than what came in: it says more and counts as full. Else prove '..UptoSaid'. A law counts once. -/
mutual
def uptoBulk {H : Type} : DataW H → Nat
  | .lit (.string bytes) => bytes.length + 1
  | .lit _ => 1
  | .nil => 1
  | .ptr d => uptoBulk d + 1
  | .slice elems spare => uptoBulkAll elems + uptoBulkAll spare + 1
  | .agg parts => uptoBulkAll parts + 1
  | .iface _ d => uptoBulk d + 1
  | .map entries => uptoBulkEntries entries + 1
  | .held _ => 1
def uptoBulkAll {H : Type} : List (DataW H) → Nat
  | [] => 0
  | d :: r => uptoBulk d + uptoBulkAll r
def uptoBulkEntries {H : Type} : List (Lit × DataW H) → Nat
  | [] => 0
  | x :: r => uptoBulkEntry x + uptoBulkEntries r
def uptoBulkEntry {H : Type} : Lit × DataW H → Nat
  | (.string bytes, d) => bytes.length + uptoBulk d + 1
  | (_, d) => uptoBulk d + 1
 end
def uptoSmall : (H : Type) → List (DataW H) → Bool := fun _ ds => decide (uptoBulkAll ds ≤ 1048576)
def OpenSpec.upto (s : _root_.Go.ChangeSpec) : _root_.Go.OpenSpec := { _root_.Go.OpenSpec.ofChange s with cond := some uptoSmall }

/-- 'truglaw12.SegmentParts', WHERE WHAT IT READS IS OF BULK AT MOST 1048576: true; the input reads as it did. -/
def segmentPartsUptoRow : OpenClaim := { program := "ytfnaccmgmocolaadoor", sum := "f09e9974abcfca542e913b98c1ac280f702464cf48b874c9fd79b3146607a54a", func := "trug/truglaw12.SegmentParts", spec := "segmentParts", unfollowed := true, recurses := true, named := ["trug/crc.effects"], apart := false, laid := [("trug/crc.effects", laid_trug_crc_effects)], narrowed := true }
def SegmentPartsUptoSaid : Prop := segmentPartsUptoRow.holds Tryd.pinned (OpenSpec.upto segmentPartsSpec)

/-- 'truglaw12.SegmentScans', WHERE WHAT IT READS IS OF BULK AT MOST 1048576: true; the input reads as it did. -/
def segmentScansUptoRow : OpenClaim := { program := "ytfnaccmgmocolaadoor", sum := "f09e9974abcfca542e913b98c1ac280f702464cf48b874c9fd79b3146607a54a", func := "trug/truglaw12.SegmentScans", spec := "segmentScans", unfollowed := true, recurses := true, named := ["trug/crc.effects"], apart := false, laid := [("trug/crc.effects", laid_trug_crc_effects)], narrowed := true }
def SegmentScansUptoSaid : Prop := segmentScansUptoRow.holds Tryd.pinned (OpenSpec.upto segmentScansSpec)

/-- 'truglaw12.SegmentBack', WHERE WHAT IT READS IS OF BULK AT MOST 1048576: true; the input reads as it did. -/
def segmentBackUptoRow : OpenClaim := { program := "ytfnaccmgmocolaadoor", sum := "f09e9974abcfca542e913b98c1ac280f702464cf48b874c9fd79b3146607a54a", func := "trug/truglaw12.SegmentBack", spec := "segmentBack", unfollowed := true, recurses := true, named := ["trug/crc.effects"], apart := false, laid := [("trug/crc.effects", laid_trug_crc_effects)], narrowed := true }
def SegmentBackUptoSaid : Prop := segmentBackUptoRow.holds Tryd.pinned (OpenSpec.upto segmentBackSpec)

/-- 'truglaw12.SegmentTail', WHERE WHAT IT READS IS OF BULK AT MOST 1048576: true; the input reads as it did. -/
def segmentTailUptoRow : OpenClaim := { program := "ytfnaccmgmocolaadoor", sum := "f09e9974abcfca542e913b98c1ac280f702464cf48b874c9fd79b3146607a54a", func := "trug/truglaw12.SegmentTail", spec := "segmentTail", unfollowed := true, recurses := true, named := ["trug/crc.effects"], apart := false, laid := [("trug/crc.effects", laid_trug_crc_effects)], narrowed := true }
def SegmentTailUptoSaid : Prop := segmentTailUptoRow.holds Tryd.pinned (OpenSpec.upto segmentTailSpec)

/-- 'truglaw12.SegmentPlaces', WHERE WHAT IT READS IS OF BULK AT MOST 1048576: true; the input reads as it did. -/
def segmentPlacesUptoRow : OpenClaim := { program := "ytfnaccmgmocolaadoor", sum := "f09e9974abcfca542e913b98c1ac280f702464cf48b874c9fd79b3146607a54a", func := "trug/truglaw12.SegmentPlaces", spec := "segmentPlaces", unfollowed := true, recurses := true, named := ["trug/crc.effects"], apart := false, laid := [("trug/crc.effects", laid_trug_crc_effects)], narrowed := true }
def SegmentPlacesUptoSaid : Prop := segmentPlacesUptoRow.holds Tryd.pinned (OpenSpec.upto segmentPlacesSpec)

/-- 'truglaw12.SegmentNew', WHERE WHAT IT READS IS OF BULK AT MOST 1048576: true; the input reads as it did. -/
def segmentNewUptoRow : OpenClaim := { program := "ytfnaccmgmocolaadoor", sum := "f09e9974abcfca542e913b98c1ac280f702464cf48b874c9fd79b3146607a54a", func := "trug/truglaw12.SegmentNew", spec := "segmentNew", unfollowed := true, recurses := true, named := ["trug/crc.effects"], apart := false, laid := [("trug/crc.effects", laid_trug_crc_effects)], narrowed := true }
def SegmentNewUptoSaid : Prop := segmentNewUptoRow.holds Tryd.pinned (OpenSpec.upto segmentNewSpec)

end Rows
end Go.Proofs.YtfnaccmgmocolaaDoor
