/- The table of widths, as the row lists it: what it gives the ways, and a world that meets it. -/
import Derived.Test.YtcioomopgdhlmaaGreatDoorRows
import Derived.Test.YtcioomopgdhlmaaGreatDoorHB
import Derived.ProofKit
import Derived.LaidMore
import Derived.OpenShut
import Derived.Stop.Joined
import Derived.Lib.LaidTab
namespace Go.Proofs.YtcioomopgdhlmaaGreatDoor.Hh
open Go.ChangeShapes Go.WideShapes Go.ChangeAt Go.RowKit

abbrev laid1 : List (String × DataW Unit) := [("withy/head.widths", Rows.laid_withy_head_widths)]
theorem own : ownKnob Tryz.prog.godebug = none := by kernel_rfl
theorem gWidths : Tryz.prog.globalNamed "withy/head.widths" = some 0 := by kernel_rfl
theorem tWidths : (Tryz.prog.globals[0]?).map (·.type) = some 100 := by kernel_rfl
theorem cells3 : Tryz.prog.cellsOf 3 = 1 := by kernel_rfl
theorem cells110 : Tryz.prog.cellsOf 100 = 7 := by kernel_rfl

theorem of_laid {W : World} (h : laidMetH Tryz.prog laid1 W) : WT W := by
  rw [MakeChecks.laidMetH_plain _ _ _ (by kernel_rfl)] at h
  have hT : Lib.TabIs Tryz.prog W "withy/head.widths" .i64 [3, 1, 1, 4, 7, 32, 16] := Lib.tabIs_of_head gWidths tWidths Tryz.underlying100 Tryz.underlying3 cells3 cells110 h
  intro i hi
  have hc := hT.cell gWidths i hi
  rw [hc]
  have h7 : i = 0 ∨ i = 1 ∨ i = 2 ∨ i = 3 ∨ i = 4 ∨ i = 5 ∨ i = 6 := by omega
  rcases h7 with rfl | rfl | rfl | rfl | rfl | rfl | rfl <;> rfl
end Go.Proofs.YtcioomopgdhlmaaGreatDoor.Hh
