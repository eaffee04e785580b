/-
  DERIVED. GIVEN WITH THE SEED: THE CARDS: each row of YtilmmnobfompiaaDoorRows.lean that lists a variable, with what it lists TIED to the program's text (the seventh form; the later family's looks); each row that meets fmt, with fmt's text TOLD by the authors' own Lean function (tested against real Go, not proved from fmt's source: count such statements apart). THE CARD IS WHAT COUNTS. Prove the row's statement (the work); the ties are given (YtilmmnobfompiaaDoorTie.lean); close each card by the builder's one call (the guide's Derived/Test/ToyasCard.lean, 'card_holds'). Laid BY PROGRAM, IN A SANDBOX (cutbox-door.mjs). By AI agents, Wed Nov 11 2026. No macro, syntax, notation, axiom, sorry.
-/
import Derived.Test.YtilmmnobfompiaaDoorRows
import GoSem.ClaimSeven
namespace Go.Proofs.YtilmmnobfompiaaDoor
namespace Rows

/-- THE TIED CARD OF 'amanuensislaw09.LatinApart'. -/
def latinApartCard : Claim7 := { stood := { row := latinApartRow, standIns := [], harness := (true, "7985430bbaf8cdd5287a2a99298f6153e60c18f36ded7169c10f903c7d59a1ad"), looks := true }, kinds := [], alts := [], laidByText := true, laidKinds := [.data, .data, .data, .data, .sentinel, .sentinel, .listed, .data, .pinned], laidTests := true, laidLooks := .later }
def LatinApartCardSaid : Prop := Claim7.holds Tryd.pinned (.plain (OpenSpec.ofChange latinApartSpec)) latinApartCard

/-- THE TIED CARD OF 'amanuensislaw09.LatinMarks'. -/
def latinMarksCard : Claim7 := { stood := { row := latinMarksRow, standIns := [], harness := (true, "7985430bbaf8cdd5287a2a99298f6153e60c18f36ded7169c10f903c7d59a1ad"), looks := true }, kinds := [], alts := [], laidByText := true, laidKinds := [.data, .data, .data, .data, .sentinel, .sentinel, .listed, .data, .pinned], laidTests := true, laidLooks := .later }
def LatinMarksCardSaid : Prop := Claim7.holds Tryd.pinned (.plain (OpenSpec.ofChange latinMarksSpec)) latinMarksCard

/-- THE SECOND FORM's CARD OF 'amanuensislaw09.LatinApart'. -/
def latinApartUptoCard : Claim7 := { stood := { row := latinApartUptoRow, standIns := [], harness := (true, "7985430bbaf8cdd5287a2a99298f6153e60c18f36ded7169c10f903c7d59a1ad"), looks := true }, kinds := [], alts := [], laidByText := true, laidKinds := [.data, .data, .data, .data, .sentinel, .sentinel, .listed, .data, .pinned], laidTests := true, laidLooks := .later }
def LatinApartUptoCardSaid : Prop := Claim7.holds Tryd.pinned (.plain (OpenSpec.upto latinApartSpec)) latinApartUptoCard

/-- THE SECOND FORM's CARD OF 'amanuensislaw09.LatinMarks'. -/
def latinMarksUptoCard : Claim7 := { stood := { row := latinMarksUptoRow, standIns := [], harness := (true, "7985430bbaf8cdd5287a2a99298f6153e60c18f36ded7169c10f903c7d59a1ad"), looks := true }, kinds := [], alts := [], laidByText := true, laidKinds := [.data, .data, .data, .data, .sentinel, .sentinel, .listed, .data, .pinned], laidTests := true, laidLooks := .later }
def LatinMarksUptoCardSaid : Prop := Claim7.holds Tryd.pinned (.plain (OpenSpec.upto latinMarksSpec)) latinMarksUptoCard
end Rows
end Go.Proofs.YtilmmnobfompiaaDoor
