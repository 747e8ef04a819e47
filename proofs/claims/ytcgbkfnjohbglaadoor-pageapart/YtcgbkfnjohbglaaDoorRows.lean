/-
  NARROWER THAN 'FOR EVERY INPUT', by the rows' own cells (each row's printed sentence says how): PageRights: laid · PageBytes: laid · PageBack: laid · PageOrder: laid · PageFinds: laid · PageApart: laid.
  DERIVED. THE GIVEN ROWS OF THIS SEAT. 6 by the template 'for every input the law returns true; each argument reads behind the call as it read before'; 0 by the template 'total and deterministic' (their statements: YtcgbkfnjohbglaaDoorTotals.lean).
  GIVEN WITH THE SEED: the statements are not yours to turn. If you find one false, say at which input.
  Laid BY PROGRAM, IN A SANDBOX (cutbox-rows.mjs): the forced cells as the released guide's own fill.sh prints them over the translation 25e3179df26c4015… (all of the seat's roots in one cut). By AI agents, Wed Nov 11 2026. No macro, syntax, notation, axiom, sorry.
-/
import Derived.Test.YtcgbkfnjohbglaaDoorChecked
import GoSem.Claim
import GoSem.ClaimJoined
import GoSem.ClaimMapViews
import Derived.JoinedTies
import Derived.KernelRfl
namespace Go.Proofs.YtcgbkfnjohbglaaDoor
/- THE CELL 'sum', in the pinned program and in every row, IS THE sha256 OF THE DUMP (.gsa) THAT YtcgbkfnjohbglaaDoorProg.lean LOADS. Nothing in Lean hashes anything: it is a label: what it is worth is what the hold of that sum in a sandbox is worth. -/
noncomputable def Tryd.pinned : Pinned := { name := "ytcgbkfnjohbglaadoor", sum := "25e3179df26c401546628afe9c422510b7da39985bf0eb590842cdf88fc6fc32", checked := Tryd.checked }
namespace Rows
def none {H : Type} : Left H := { results := [], args := [] }

/- WHAT THE LISTED PACKAGE-LEVEL VARIABLES READ AS WHEN THE CALL BEGINS. Each datum BY PROGRAM (the guide's laid-datum.mjs) off the statement by which the dump's own 'gosem.cut.vars' lays the variable. In a bare row this is a premise. The card (YtcgbkfnjohbglaaDoorCards.lean) ties it to the program's text. -/
def laid_trug_crc_effects {H : Type} : DataW H := .agg [.lit (.int .u32 0), .lit (.int .u32 498536548), .lit (.int .u32 997073096), .lit (.int .u32 651767980), .lit (.int .u32 1994146192), .lit (.int .u32 1802195444), .lit (.int .u32 1303535960), .lit (.int .u32 1342533948), .lit (.int .u32 3988292384), .lit (.int .u32 4027552580), .lit (.int .u32 3604390888), .lit (.int .u32 3412177804), .lit (.int .u32 2607071920), .lit (.int .u32 2262029012), .lit (.int .u32 2685067896), .lit (.int .u32 3183342108)]

/-- 'truglaw13.PageRights': WHATEVER THE INPUT: true; the input reads as it did. -/
def pageRightsSpec : ChangeSpec := { name := "pageRights", fn := fun _ => fun
  | [d1, d2, d3] => { results := [.lit (.bool true)], args := [d1, d2, d3] }
  | _ => none }
def pageRightsRow : OpenClaim := { program := "ytcgbkfnjohbglaadoor", sum := "25e3179df26c401546628afe9c422510b7da39985bf0eb590842cdf88fc6fc32", func := "trug/truglaw13.PageRights", spec := "pageRights", unfollowed := true, recurses := true, named := ["trug/crc.effects"], apart := false, laid := [("trug/crc.effects", laid_trug_crc_effects)] }
def PageRightsSaid : Prop := pageRightsRow.holds Tryd.pinned (OpenSpec.ofChange pageRightsSpec)

/-- ITS FALSE NEIGHBOUR: 'it returns false'. Refute it at one input. -/
def pageRightsWrong : ChangeSpec := { name := "pageRights", fn := fun _ => fun
  | [d1, d2, d3] => { results := [.lit (.bool false)], args := [d1, d2, d3] }
  | _ => none }
def PageRightsWrongFalsely : Prop := pageRightsRow.holds Tryd.pinned (OpenSpec.ofChange pageRightsWrong)

/-- 'truglaw13.PageBytes': WHATEVER THE INPUT: true; the input reads as it did. -/
def pageBytesSpec : ChangeSpec := { name := "pageBytes", fn := fun _ => fun
  | [d1, d2] => { results := [.lit (.bool true)], args := [d1, d2] }
  | _ => none }
def pageBytesRow : OpenClaim := { program := "ytcgbkfnjohbglaadoor", sum := "25e3179df26c401546628afe9c422510b7da39985bf0eb590842cdf88fc6fc32", func := "trug/truglaw13.PageBytes", spec := "pageBytes", unfollowed := true, recurses := true, named := ["trug/crc.effects"], apart := false, laid := [("trug/crc.effects", laid_trug_crc_effects)] }
def PageBytesSaid : Prop := pageBytesRow.holds Tryd.pinned (OpenSpec.ofChange pageBytesSpec)

/-- ITS FALSE NEIGHBOUR: 'it returns false'. Refute it at one input. -/
def pageBytesWrong : ChangeSpec := { name := "pageBytes", fn := fun _ => fun
  | [d1, d2] => { results := [.lit (.bool false)], args := [d1, d2] }
  | _ => none }
def PageBytesWrongFalsely : Prop := pageBytesRow.holds Tryd.pinned (OpenSpec.ofChange pageBytesWrong)

/-- 'truglaw13.PageBack': WHATEVER THE INPUT: true; the input reads as it did. -/
def pageBackSpec : ChangeSpec := { name := "pageBack", fn := fun _ => fun
  | [d1, d2] => { results := [.lit (.bool true)], args := [d1, d2] }
  | _ => none }
def pageBackRow : OpenClaim := { program := "ytcgbkfnjohbglaadoor", sum := "25e3179df26c401546628afe9c422510b7da39985bf0eb590842cdf88fc6fc32", func := "trug/truglaw13.PageBack", spec := "pageBack", unfollowed := true, recurses := true, named := ["trug/crc.effects"], apart := false, laid := [("trug/crc.effects", laid_trug_crc_effects)] }
def PageBackSaid : Prop := pageBackRow.holds Tryd.pinned (OpenSpec.ofChange pageBackSpec)

/-- ITS FALSE NEIGHBOUR: 'it returns false'. Refute it at one input. -/
def pageBackWrong : ChangeSpec := { name := "pageBack", fn := fun _ => fun
  | [d1, d2] => { results := [.lit (.bool false)], args := [d1, d2] }
  | _ => none }
def PageBackWrongFalsely : Prop := pageBackRow.holds Tryd.pinned (OpenSpec.ofChange pageBackWrong)

/-- 'truglaw13.PageOrder': WHATEVER THE INPUT: true; the input reads as it did. -/
def pageOrderSpec : ChangeSpec := { name := "pageOrder", fn := fun _ => fun
  | [d1, d2, d3] => { results := [.lit (.bool true)], args := [d1, d2, d3] }
  | _ => none }
def pageOrderRow : OpenClaim := { program := "ytcgbkfnjohbglaadoor", sum := "25e3179df26c401546628afe9c422510b7da39985bf0eb590842cdf88fc6fc32", func := "trug/truglaw13.PageOrder", spec := "pageOrder", unfollowed := true, recurses := true, named := ["trug/crc.effects"], apart := false, laid := [("trug/crc.effects", laid_trug_crc_effects)] }
def PageOrderSaid : Prop := pageOrderRow.holds Tryd.pinned (OpenSpec.ofChange pageOrderSpec)

/-- ITS FALSE NEIGHBOUR: 'it returns false'. Refute it at one input. -/
def pageOrderWrong : ChangeSpec := { name := "pageOrder", fn := fun _ => fun
  | [d1, d2, d3] => { results := [.lit (.bool false)], args := [d1, d2, d3] }
  | _ => none }
def PageOrderWrongFalsely : Prop := pageOrderRow.holds Tryd.pinned (OpenSpec.ofChange pageOrderWrong)

/-- 'truglaw13.PageFinds': WHATEVER THE INPUT: true; the input reads as it did. -/
def pageFindsSpec : ChangeSpec := { name := "pageFinds", fn := fun _ => fun
  | [d1, d2] => { results := [.lit (.bool true)], args := [d1, d2] }
  | _ => none }
def pageFindsRow : OpenClaim := { program := "ytcgbkfnjohbglaadoor", sum := "25e3179df26c401546628afe9c422510b7da39985bf0eb590842cdf88fc6fc32", func := "trug/truglaw13.PageFinds", spec := "pageFinds", unfollowed := true, recurses := true, named := ["trug/crc.effects"], apart := false, laid := [("trug/crc.effects", laid_trug_crc_effects)] }
def PageFindsSaid : Prop := pageFindsRow.holds Tryd.pinned (OpenSpec.ofChange pageFindsSpec)

/-- ITS FALSE NEIGHBOUR: 'it returns false'. Refute it at one input. -/
def pageFindsWrong : ChangeSpec := { name := "pageFinds", fn := fun _ => fun
  | [d1, d2] => { results := [.lit (.bool false)], args := [d1, d2] }
  | _ => none }
def PageFindsWrongFalsely : Prop := pageFindsRow.holds Tryd.pinned (OpenSpec.ofChange pageFindsWrong)

/-- 'truglaw13.PageApart': WHATEVER THE INPUT: true; the input reads as it did. -/
def pageApartSpec : ChangeSpec := { name := "pageApart", fn := fun _ => fun
  | [d1, d2, d3] => { results := [.lit (.bool true)], args := [d1, d2, d3] }
  | _ => none }
def pageApartRow : OpenClaim := { program := "ytcgbkfnjohbglaadoor", sum := "25e3179df26c401546628afe9c422510b7da39985bf0eb590842cdf88fc6fc32", func := "trug/truglaw13.PageApart", spec := "pageApart", unfollowed := true, recurses := true, named := ["trug/crc.effects"], apart := false, laid := [("trug/crc.effects", laid_trug_crc_effects)] }
def PageApartSaid : Prop := pageApartRow.holds Tryd.pinned (OpenSpec.ofChange pageApartSpec)

/-- ITS FALSE NEIGHBOUR: 'it returns false'. Refute it at one input. -/
def pageApartWrong : ChangeSpec := { name := "pageApart", fn := fun _ => fun
  | [d1, d2, d3] => { results := [.lit (.bool false)], args := [d1, d2, d3] }
  | _ => none }
def PageApartWrongFalsely : Prop := pageApartRow.holds Tryd.pinned (OpenSpec.ofChange pageApartWrong)

/- THE SECOND FORM. 'bulk': how many values and letters a reading holds, each counted each time it is reached (what is shared counts as often as it is met; a slice's spare places count too). A statement '..UptoSaid' is the law's where the arguments, and the package variables that the reading takes, are together of bulk at most 1048576: NARROWER than '..Said'. Prove '..Said' where nothing that the law and all that it calls make is longer than what came in: it says more and counts as full. Else prove '..UptoSaid'. A law counts once. -/
mutual
def uptoBulk {H : Type} : DataW H → Nat
  | .lit (.string bytes) => bytes.length + 1
  | .lit _ => 1
  | .nil => 1
  | .ptr d => uptoBulk d + 1
  | .slice elems spare => uptoBulkAll elems + uptoBulkAll spare + 1
  | .agg parts => uptoBulkAll parts + 1
  | .iface _ d => uptoBulk d + 1
  | .map entries => uptoBulkEntries entries + 1
  | .held _ => 1
def uptoBulkAll {H : Type} : List (DataW H) → Nat
  | [] => 0
  | d :: r => uptoBulk d + uptoBulkAll r
def uptoBulkEntries {H : Type} : List (Lit × DataW H) → Nat
  | [] => 0
  | x :: r => uptoBulkEntry x + uptoBulkEntries r
def uptoBulkEntry {H : Type} : Lit × DataW H → Nat
  | (.string bytes, d) => bytes.length + uptoBulk d + 1
  | (_, d) => uptoBulk d + 1
 end
def uptoSmall : (H : Type) → List (DataW H) → Bool := fun _ ds => decide (uptoBulkAll ds ≤ 1048576)
def OpenSpec.upto (s : _root_.Go.ChangeSpec) : _root_.Go.OpenSpec := { _root_.Go.OpenSpec.ofChange s with cond := some uptoSmall }

/-- 'truglaw13.PageRights', WHERE WHAT IT READS IS OF BULK AT MOST 1048576: true; the input reads as it did. -/
def pageRightsUptoRow : OpenClaim := { program := "ytcgbkfnjohbglaadoor", sum := "25e3179df26c401546628afe9c422510b7da39985bf0eb590842cdf88fc6fc32", func := "trug/truglaw13.PageRights", spec := "pageRights", unfollowed := true, recurses := true, named := ["trug/crc.effects"], apart := false, laid := [("trug/crc.effects", laid_trug_crc_effects)], narrowed := true }
def PageRightsUptoSaid : Prop := pageRightsUptoRow.holds Tryd.pinned (OpenSpec.upto pageRightsSpec)

/-- 'truglaw13.PageBytes', WHERE WHAT IT READS IS OF BULK AT MOST 1048576: true; the input reads as it did. -/
def pageBytesUptoRow : OpenClaim := { program := "ytcgbkfnjohbglaadoor", sum := "25e3179df26c401546628afe9c422510b7da39985bf0eb590842cdf88fc6fc32", func := "trug/truglaw13.PageBytes", spec := "pageBytes", unfollowed := true, recurses := true, named := ["trug/crc.effects"], apart := false, laid := [("trug/crc.effects", laid_trug_crc_effects)], narrowed := true }
def PageBytesUptoSaid : Prop := pageBytesUptoRow.holds Tryd.pinned (OpenSpec.upto pageBytesSpec)

/-- 'truglaw13.PageBack', WHERE WHAT IT READS IS OF BULK AT MOST 1048576: true; the input reads as it did. -/
def pageBackUptoRow : OpenClaim := { program := "ytcgbkfnjohbglaadoor", sum := "25e3179df26c401546628afe9c422510b7da39985bf0eb590842cdf88fc6fc32", func := "trug/truglaw13.PageBack", spec := "pageBack", unfollowed := true, recurses := true, named := ["trug/crc.effects"], apart := false, laid := [("trug/crc.effects", laid_trug_crc_effects)], narrowed := true }
def PageBackUptoSaid : Prop := pageBackUptoRow.holds Tryd.pinned (OpenSpec.upto pageBackSpec)

/-- 'truglaw13.PageOrder', WHERE WHAT IT READS IS OF BULK AT MOST 1048576: true; the input reads as it did. -/
def pageOrderUptoRow : OpenClaim := { program := "ytcgbkfnjohbglaadoor", sum := "25e3179df26c401546628afe9c422510b7da39985bf0eb590842cdf88fc6fc32", func := "trug/truglaw13.PageOrder", spec := "pageOrder", unfollowed := true, recurses := true, named := ["trug/crc.effects"], apart := false, laid := [("trug/crc.effects", laid_trug_crc_effects)], narrowed := true }
def PageOrderUptoSaid : Prop := pageOrderUptoRow.holds Tryd.pinned (OpenSpec.upto pageOrderSpec)

/-- 'truglaw13.PageFinds', WHERE WHAT IT READS IS OF BULK AT MOST 1048576: true; the input reads as it did. -/
def pageFindsUptoRow : OpenClaim := { program := "ytcgbkfnjohbglaadoor", sum := "25e3179df26c401546628afe9c422510b7da39985bf0eb590842cdf88fc6fc32", func := "trug/truglaw13.PageFinds", spec := "pageFinds", unfollowed := true, recurses := true, named := ["trug/crc.effects"], apart := false, laid := [("trug/crc.effects", laid_trug_crc_effects)], narrowed := true }
def PageFindsUptoSaid : Prop := pageFindsUptoRow.holds Tryd.pinned (OpenSpec.upto pageFindsSpec)

/-- 'truglaw13.PageApart', WHERE WHAT IT READS IS OF BULK AT MOST 1048576: true; the input reads as it did. -/
def pageApartUptoRow : OpenClaim := { program := "ytcgbkfnjohbglaadoor", sum := "25e3179df26c401546628afe9c422510b7da39985bf0eb590842cdf88fc6fc32", func := "trug/truglaw13.PageApart", spec := "pageApart", unfollowed := true, recurses := true, named := ["trug/crc.effects"], apart := false, laid := [("trug/crc.effects", laid_trug_crc_effects)], narrowed := true }
def PageApartUptoSaid : Prop := pageApartUptoRow.holds Tryd.pinned (OpenSpec.upto pageApartSpec)

end Rows
end Go.Proofs.YtcgbkfnjohbglaaDoor
