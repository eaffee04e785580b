/- What the listed variables give the walks: the one place of the library's table of trailing zeros; and a world in which they lie so. -/
import Derived.Test.YtfggeofknmdmfaaDoorRows
import Derived.Test.YtfggeofknmdmfaaDoorFormat
import Derived.WalkKit
import Derived.ProofKit
import Derived.Lay
import Derived.LaidOnce
import Derived.SevenTiedAt
import Derived.Lib.LaidTab
import Derived.Stop.LaidErr
namespace Go.Proofs.YtfggeofknmdmfaaDoor.U
open Go.ChangeShapes Go.WideShapes Go.ChangeAt Go.RowKit

def laidL : List (String × DataW Unit) := Rows.ncrPrintsRow.laid

def nTz : String := Rows.ncrPrintsRow.named[2]
theorem gTz : Tryd.prog.globalNamed nTz = some 8 := by kernel_rfl
theorem tTz : (Tryd.prog.globals[8]?).map (·.type) = some 110 := by kernel_rfl
theorem c5 : Tryd.prog.cellsOf 5 = 1 := by kernel_rfl
theorem c110 : Tryd.prog.cellsOf 110 = 64 := by kernel_rfl
def tab64 : List Int := [0, 1, 56, 2, 57, 49, 28, 3, 61, 58, 42, 50, 38, 29, 17, 4, 62, 47, 59, 36, 45, 43, 51, 22, 53, 39, 33, 30, 24, 18, 12, 5, 63, 55, 48, 27, 60, 41, 37, 16, 46, 35, 44, 21, 52, 32, 23, 11, 54, 26, 40, 15, 34, 20, 31, 10, 25, 14, 19, 9, 13, 8, 7, 6]

theorem tz_of {W : World} (h : laidMetH Tryd.prog laidL W) : Tz W := by
  rw [MakeChecks.laidMetH_plain _ _ _ (by kernel_rfl)] at h
  have h1 : laidMet Tryd.prog ((nTz, Lib.tabData .u8 tab64) :: laidL.drop 2) W := laidMet.tail h
  have hT := Lib.tabIs_of_head gTz tTz Tryd.underlying110 Tryd.underlying5 c5 c110 h1
  exact hT.cell gTz 15 (by decide)

set_option maxRecDepth 100000 in
theorem door_shaped (os : Os) : laidMetH Tryd.prog laidL ((World.laidAll Tryd.prog os laidL).forCall (fun _ _ => 0) ⟨#[], #[], []⟩).memory := by
  rw [MakeChecks.laidMetH_plain _ _ _ (by kernel_rfl)]; exact laidMet_laidAll _ (by kernel_rfl) (by kernel_rfl)
end Go.Proofs.YtfggeofknmdmfaaDoor.U
