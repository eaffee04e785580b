/- What the listed variables give the walks: nothing is read of them; and a world in which they lie so. -/
import Derived.Test.YtkdcmmaocbmedaaDoorRows
import Derived.Test.YtkdcmmaocbmedaaDoorWalk
import Derived.WalkKit
import Derived.ProofKit
import Derived.Lay
import Derived.LaidOnce
import Derived.SevenTiedAt
import Derived.Lib.LaidTab
import Derived.Stop.LaidErr
namespace Go.Proofs.YtkdcmmaocbmedaaDoor.U
open Go.ChangeShapes Go.WideShapes Go.ChangeAt Go.RowKit
set_option linter.unusedVariables false

theorem fit32 {x : Int} (h : (Lit.int .i32 x).wf = true) : -2147483648 ≤ x ∧ x ≤ 2147483647 := by
  have := bounds_i32 h
  omega
def laidL : List (String × DataW Unit) := Rows.pairsBackRow.laid
/-- The walks ask nothing of the listed variables. -/
def Nought (w : World) : Prop := w = w
theorem nought_of {W : World} (h : laidMetH Tryd.prog laidL W) : Nought W := rfl
end Go.Proofs.YtkdcmmaocbmedaaDoor.U
