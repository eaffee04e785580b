/-
  DERIVED. GIVEN WITH THE SEED: THE CARDS: each row of YtkbiogbaaomcdaaDoorRows.lean that lists a variable, with what it lists TIED to the program's text (the seventh form; the later family's looks); each row that meets fmt, with fmt's text TOLD by the authors' own Lean function (tested against real Go, not proved from fmt's source: count such statements apart). THE CARD IS WHAT COUNTS. Prove the row's statement (the work); the ties are given (YtkbiogbaaomcdaaDoorTie.lean); close each card by the builder's one call (the guide's Derived/Test/ToyasCard.lean, 'card_holds'). Laid BY PROGRAM, IN A SANDBOX (cutbox-door.mjs). By AI agents, Wed Nov 11 2026. No macro, syntax, notation, axiom, sorry.
-/
import Derived.Test.YtkbiogbaaomcdaaDoorRows
import GoSem.ClaimSeven
namespace Go.Proofs.YtkbiogbaaomcdaaDoor
namespace Rows

/-- THE TIED CARD OF 'amanuensislaw03.ClassOf'. -/
def classOfCard : Claim7 := { stood := { row := classOfRow, standIns := [], harness := (true, "513adb88562d91fca7daaa6ffa5207a0191514c25fd6f1a042a37b5c00fd7400"), looks := false }, kinds := [], alts := [], laidByText := true, laidKinds := [.wider], laidTests := true, laidLooks := .later }
def ClassOfCardSaid : Prop := Claim7.holds Tryd.pinned (.plain (OpenSpec.ofChange classOfSpec)) classOfCard

/-- THE TIED CARD OF 'amanuensislaw03.ClassAll'. -/
def classAllCard : Claim7 := { stood := { row := classAllRow, standIns := [], harness := (true, "513adb88562d91fca7daaa6ffa5207a0191514c25fd6f1a042a37b5c00fd7400"), looks := false }, kinds := [], alts := [], laidByText := true, laidKinds := [.wider], laidTests := true, laidLooks := .later }
def ClassAllCardSaid : Prop := Claim7.holds Tryd.pinned (.plain (OpenSpec.ofChange classAllSpec)) classAllCard

/-- THE TIED CARD OF 'amanuensislaw03.ClassBounds'. -/
def classBoundsCard : Claim7 := { stood := { row := classBoundsRow, standIns := [], harness := (true, "513adb88562d91fca7daaa6ffa5207a0191514c25fd6f1a042a37b5c00fd7400"), looks := false }, kinds := [], alts := [], laidByText := true, laidKinds := [.wider], laidTests := true, laidLooks := .later }
def ClassBoundsCardSaid : Prop := Claim7.holds Tryd.pinned (.plain (OpenSpec.ofChange classBoundsSpec)) classBoundsCard

/-- THE TIED CARD OF 'amanuensislaw03.ClassSteps'. -/
def classStepsCard : Claim7 := { stood := { row := classStepsRow, standIns := [], harness := (true, "513adb88562d91fca7daaa6ffa5207a0191514c25fd6f1a042a37b5c00fd7400"), looks := false }, kinds := [], alts := [], laidByText := true, laidKinds := [.wider], laidTests := true, laidLooks := .later }
def ClassStepsCardSaid : Prop := Claim7.holds Tryd.pinned (.plain (OpenSpec.ofChange classStepsSpec)) classStepsCard

/-- THE SECOND FORM's CARD OF 'amanuensislaw03.ClassOf'. -/
def classOfUptoCard : Claim7 := { stood := { row := classOfUptoRow, standIns := [], harness := (true, "513adb88562d91fca7daaa6ffa5207a0191514c25fd6f1a042a37b5c00fd7400"), looks := false }, kinds := [], alts := [], laidByText := true, laidKinds := [.wider], laidTests := true, laidLooks := .later }
def ClassOfUptoCardSaid : Prop := Claim7.holds Tryd.pinned (.plain (OpenSpec.upto classOfSpec)) classOfUptoCard

/-- THE SECOND FORM's CARD OF 'amanuensislaw03.ClassAll'. -/
def classAllUptoCard : Claim7 := { stood := { row := classAllUptoRow, standIns := [], harness := (true, "513adb88562d91fca7daaa6ffa5207a0191514c25fd6f1a042a37b5c00fd7400"), looks := false }, kinds := [], alts := [], laidByText := true, laidKinds := [.wider], laidTests := true, laidLooks := .later }
def ClassAllUptoCardSaid : Prop := Claim7.holds Tryd.pinned (.plain (OpenSpec.upto classAllSpec)) classAllUptoCard

/-- THE SECOND FORM's CARD OF 'amanuensislaw03.ClassBounds'. -/
def classBoundsUptoCard : Claim7 := { stood := { row := classBoundsUptoRow, standIns := [], harness := (true, "513adb88562d91fca7daaa6ffa5207a0191514c25fd6f1a042a37b5c00fd7400"), looks := false }, kinds := [], alts := [], laidByText := true, laidKinds := [.wider], laidTests := true, laidLooks := .later }
def ClassBoundsUptoCardSaid : Prop := Claim7.holds Tryd.pinned (.plain (OpenSpec.upto classBoundsSpec)) classBoundsUptoCard

/-- THE SECOND FORM's CARD OF 'amanuensislaw03.ClassSteps'. -/
def classStepsUptoCard : Claim7 := { stood := { row := classStepsUptoRow, standIns := [], harness := (true, "513adb88562d91fca7daaa6ffa5207a0191514c25fd6f1a042a37b5c00fd7400"), looks := false }, kinds := [], alts := [], laidByText := true, laidKinds := [.wider], laidTests := true, laidLooks := .later }
def ClassStepsUptoCardSaid : Prop := Claim7.holds Tryd.pinned (.plain (OpenSpec.upto classStepsSpec)) classStepsUptoCard
end Rows
end Go.Proofs.YtkbiogbaaomcdaaDoor
