/- What every law of this seat uses: the listed table gives the sixteen cells. -/
import Derived.Test.YtcgbkfnjohbglaaDoorCl
import Derived.Test.YtcgbkfnjohbglaaDoorTie
import Derived.Test.YtcgbkfnjohbglaaDoorCards
import Derived.LaidMore
import Derived.Stop.Joined
import Derived.Lib.LaidTab
import Derived.SevenTiedAt
namespace Go.Proofs.YtcgbkfnjohbglaaDoor
open Go.ChangeShapes Go.WideShapes Go.ChangeAt Go.RowKit

theorem gTab : Tryd.prog.globalNamed "trug/crc.effects" = some 0 := by kernel_rfl
theorem tTab : (Tryd.prog.globals[0]?).map (·.type) = some 123 := by kernel_rfl
theorem cells28 : Tryd.prog.cellsOf 28 = 1 := by kernel_rfl
theorem cells123 : Tryd.prog.cellsOf 123 = 16 := by kernel_rfl

def laid1 : List (String × DataW Unit) := [("trug/crc.effects", Rows.laid_trug_crc_effects)]

theorem door_met (os : Os) (args : Array Value) : laidMetH Tryd.prog laid1 ((World.doorLaid Tryd.prog 14 os).forCall (fun _ _ => 0) ⟨#[], args, []⟩).memory :=
  laidMetH_of_parts3 (fuel := 8) (laidMet_of_run' 8 (by kernel_rfl) (by kernel_rfl)) (by kernel_rfl) (by kernel_rfl)

theorem of_laid {W : World} (h : laidMetH Tryd.prog laid1 W) : Tab W := by
  rw [MakeChecks.laidMetH_plain _ _ _ (by kernel_rfl)] at h
  have h1 : laidMet Tryd.prog (("trug/crc.effects", Lib.tabData .u32 (Crc.tab.map fun n => ((n : Nat) : Int))) :: []) W := h
  have ht := Lib.tabIs_of_head gTab tTab Tryd.underlying123 Tryd.underlying28 cells28 cells123 h1
  intro i hi
  have h2 := ht.cell gTab i (by simp [Crc.tab]; exact hi)
  have h3 : ∀ j, j < 16 → (Crc.tab.map fun n => ((n : Nat) : Int)).getD j 0 = ((Crc.tab.getD j 0 : Nat) : Int) := by decide
  rw [h2, h3 i hi]

end Go.Proofs.YtcgbkfnjohbglaaDoor
