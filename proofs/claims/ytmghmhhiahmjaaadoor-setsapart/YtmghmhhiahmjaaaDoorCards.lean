/-
  DERIVED. GIVEN WITH THE SEED: THE CARDS: each row of YtmghmhhiahmjaaaDoorRows.lean that lists a variable, with what it lists TIED to the program's text (the seventh form; the later family's looks); each row that meets fmt, with fmt's text TOLD by the authors' own Lean function (tested against real Go, not proved from fmt's source: count such statements apart). THE CARD IS WHAT COUNTS. Prove the row's statement (the work); the ties are given (YtmghmhhiahmjaaaDoorTie.lean); close each card by the builder's one call (the guide's Derived/Test/ToyasCard.lean, 'card_holds'). Laid BY PROGRAM, IN A SANDBOX (cutbox-door.mjs). By AI agents, Wed Nov 11 2026. No macro, syntax, notation, axiom, sorry.
-/
import Derived.Test.YtmghmhhiahmjaaaDoorRows
import GoSem.ClaimSeven
namespace Go.Proofs.YtmghmhhiahmjaaaDoor
namespace Rows

/-- THE TIED CARD OF 'amanuensislaw08.SetsNames'. -/
def setsNamesCard : Claim7 := { stood := { row := setsNamesRow, standIns := [], harness := (true, "d733ffa8cfb16d9688c7504854ae4cb7151d72bf48105fd9b37cf138a240b642"), looks := false }, kinds := [], alts := [], laidByText := true, laidKinds := [.data], laidTests := true, laidLooks := .later }
def SetsNamesCardSaid : Prop := Claim7.holds Tryd.pinned (.plain (OpenSpec.ofChange setsNamesSpec)) setsNamesCard

/-- THE TIED CARD OF 'amanuensislaw08.SetsApart'. -/
def setsApartCard : Claim7 := { stood := { row := setsApartRow, standIns := [], harness := (true, "d733ffa8cfb16d9688c7504854ae4cb7151d72bf48105fd9b37cf138a240b642"), looks := false }, kinds := [], alts := [], laidByText := true, laidKinds := [.data], laidTests := true, laidLooks := .later }
def SetsApartCardSaid : Prop := Claim7.holds Tryd.pinned (.plain (OpenSpec.ofChange setsApartSpec)) setsApartCard

/-- THE TIED CARD OF 'amanuensislaw08.SetsLeast'. -/
def setsLeastCard : Claim7 := { stood := { row := setsLeastRow, standIns := [], harness := (true, "d733ffa8cfb16d9688c7504854ae4cb7151d72bf48105fd9b37cf138a240b642"), looks := false }, kinds := [], alts := [], laidByText := true, laidKinds := [.data], laidTests := true, laidLooks := .later }
def SetsLeastCardSaid : Prop := Claim7.holds Tryd.pinned (.plain (OpenSpec.ofChange setsLeastSpec)) setsLeastCard

/-- THE TIED CARD OF 'amanuensislaw08.SetsNone'. -/
def setsNoneCard : Claim7 := { stood := { row := setsNoneRow, standIns := [], harness := (true, "d733ffa8cfb16d9688c7504854ae4cb7151d72bf48105fd9b37cf138a240b642"), looks := false }, kinds := [], alts := [], laidByText := true, laidKinds := [.data], laidTests := true, laidLooks := .later }
def SetsNoneCardSaid : Prop := Claim7.holds Tryd.pinned (.plain (OpenSpec.ofChange setsNoneSpec)) setsNoneCard

/-- THE SECOND FORM's CARD OF 'amanuensislaw08.SetsNames'. -/
def setsNamesUptoCard : Claim7 := { stood := { row := setsNamesUptoRow, standIns := [], harness := (true, "d733ffa8cfb16d9688c7504854ae4cb7151d72bf48105fd9b37cf138a240b642"), looks := false }, kinds := [], alts := [], laidByText := true, laidKinds := [.data], laidTests := true, laidLooks := .later }
def SetsNamesUptoCardSaid : Prop := Claim7.holds Tryd.pinned (.plain (OpenSpec.upto setsNamesSpec)) setsNamesUptoCard

/-- THE SECOND FORM's CARD OF 'amanuensislaw08.SetsApart'. -/
def setsApartUptoCard : Claim7 := { stood := { row := setsApartUptoRow, standIns := [], harness := (true, "d733ffa8cfb16d9688c7504854ae4cb7151d72bf48105fd9b37cf138a240b642"), looks := false }, kinds := [], alts := [], laidByText := true, laidKinds := [.data], laidTests := true, laidLooks := .later }
def SetsApartUptoCardSaid : Prop := Claim7.holds Tryd.pinned (.plain (OpenSpec.upto setsApartSpec)) setsApartUptoCard

/-- THE SECOND FORM's CARD OF 'amanuensislaw08.SetsLeast'. -/
def setsLeastUptoCard : Claim7 := { stood := { row := setsLeastUptoRow, standIns := [], harness := (true, "d733ffa8cfb16d9688c7504854ae4cb7151d72bf48105fd9b37cf138a240b642"), looks := false }, kinds := [], alts := [], laidByText := true, laidKinds := [.data], laidTests := true, laidLooks := .later }
def SetsLeastUptoCardSaid : Prop := Claim7.holds Tryd.pinned (.plain (OpenSpec.upto setsLeastSpec)) setsLeastUptoCard

/-- THE SECOND FORM's CARD OF 'amanuensislaw08.SetsNone'. -/
def setsNoneUptoCard : Claim7 := { stood := { row := setsNoneUptoRow, standIns := [], harness := (true, "d733ffa8cfb16d9688c7504854ae4cb7151d72bf48105fd9b37cf138a240b642"), looks := false }, kinds := [], alts := [], laidByText := true, laidKinds := [.data], laidTests := true, laidLooks := .later }
def SetsNoneUptoCardSaid : Prop := Claim7.holds Tryd.pinned (.plain (OpenSpec.upto setsNoneSpec)) setsNoneUptoCard
end Rows
end Go.Proofs.YtmghmhhiahmjaaaDoor
