/-
  DERIVED. GIVEN WITH THE SEED: THE CARDS: each row of YthdggdjaicfapaaDoorRows.lean that lists a variable, with what it lists TIED to the program's text (the seventh form; the later family's looks); each row that meets fmt, with fmt's text TOLD by the authors' own Lean function (tested against real Go, not proved from fmt's source: count such statements apart). THE CARD IS WHAT COUNTS. Prove the row's statement (the work); the ties are given (YthdggdjaicfapaaDoorTie.lean); close each card by the builder's one call (the guide's Derived/Test/ToyasCard.lean, 'card_holds'). Laid BY PROGRAM, IN A SANDBOX (cutbox-door.mjs). By AI agents, Wed Nov 11 2026. No macro, syntax, notation, axiom, sorry.
-/
import Derived.Test.YthdggdjaicfapaaDoorRows
import GoSem.ClaimSeven
namespace Go.Proofs.YthdggdjaicfapaaDoor
namespace Rows

/-- THE TIED CARD OF 'amanuensislaw14.EscapeReads'. -/
def escapeReadsCard : Claim7 := { stood := { row := escapeReadsRow, standIns := [], harness := (true, "a1991fd69d51a72722d2a82b90153b1e26452071702a085d10270e765b38019c"), looks := false }, kinds := [], alts := [], laidByText := true, laidKinds := [.data, .data, .pinned], laidTests := true, laidLooks := .later }
def EscapeReadsCardSaid : Prop := Claim7.holds Tryd.pinned (.plain (OpenSpec.ofChange escapeReadsSpec)) escapeReadsCard

/-- THE TIED CARD OF 'amanuensislaw14.EscapePrints'. -/
def escapePrintsCard : Claim7 := { stood := { row := escapePrintsRow, standIns := [], harness := (true, "a1991fd69d51a72722d2a82b90153b1e26452071702a085d10270e765b38019c"), looks := false }, kinds := [], alts := [], laidByText := true, laidKinds := [.data, .data, .pinned], laidTests := true, laidLooks := .later }
def EscapePrintsCardSaid : Prop := Claim7.holds Tryd.pinned (.plain (OpenSpec.ofChange escapePrintsSpec)) escapePrintsCard

/-- THE TIED CARD OF 'amanuensislaw14.EscapeAll'. -/
def escapeAllCard : Claim7 := { stood := { row := escapeAllRow, standIns := [], harness := (true, "a1991fd69d51a72722d2a82b90153b1e26452071702a085d10270e765b38019c"), looks := false }, kinds := [], alts := [], laidByText := true, laidKinds := [.data, .data, .pinned], laidTests := true, laidLooks := .later }
def EscapeAllCardSaid : Prop := Claim7.holds Tryd.pinned (.plain (OpenSpec.ofChange escapeAllSpec)) escapeAllCard

/-- THE TIED CARD OF 'amanuensislaw14.EscapeCut'. -/
def escapeCutCard : Claim7 := { stood := { row := escapeCutRow, standIns := [], harness := (true, "a1991fd69d51a72722d2a82b90153b1e26452071702a085d10270e765b38019c"), looks := false }, kinds := [], alts := [], laidByText := true, laidKinds := [.data, .data, .pinned], laidTests := true, laidLooks := .later }
def EscapeCutCardSaid : Prop := Claim7.holds Tryd.pinned (.plain (OpenSpec.ofChange escapeCutSpec)) escapeCutCard

/-- THE SECOND FORM's CARD OF 'amanuensislaw14.EscapeReads'. -/
def escapeReadsUptoCard : Claim7 := { stood := { row := escapeReadsUptoRow, standIns := [], harness := (true, "a1991fd69d51a72722d2a82b90153b1e26452071702a085d10270e765b38019c"), looks := false }, kinds := [], alts := [], laidByText := true, laidKinds := [.data, .data, .pinned], laidTests := true, laidLooks := .later }
def EscapeReadsUptoCardSaid : Prop := Claim7.holds Tryd.pinned (.plain (OpenSpec.upto escapeReadsSpec)) escapeReadsUptoCard

/-- THE SECOND FORM's CARD OF 'amanuensislaw14.EscapePrints'. -/
def escapePrintsUptoCard : Claim7 := { stood := { row := escapePrintsUptoRow, standIns := [], harness := (true, "a1991fd69d51a72722d2a82b90153b1e26452071702a085d10270e765b38019c"), looks := false }, kinds := [], alts := [], laidByText := true, laidKinds := [.data, .data, .pinned], laidTests := true, laidLooks := .later }
def EscapePrintsUptoCardSaid : Prop := Claim7.holds Tryd.pinned (.plain (OpenSpec.upto escapePrintsSpec)) escapePrintsUptoCard

/-- THE SECOND FORM's CARD OF 'amanuensislaw14.EscapeAll'. -/
def escapeAllUptoCard : Claim7 := { stood := { row := escapeAllUptoRow, standIns := [], harness := (true, "a1991fd69d51a72722d2a82b90153b1e26452071702a085d10270e765b38019c"), looks := false }, kinds := [], alts := [], laidByText := true, laidKinds := [.data, .data, .pinned], laidTests := true, laidLooks := .later }
def EscapeAllUptoCardSaid : Prop := Claim7.holds Tryd.pinned (.plain (OpenSpec.upto escapeAllSpec)) escapeAllUptoCard

/-- THE SECOND FORM's CARD OF 'amanuensislaw14.EscapeCut'. -/
def escapeCutUptoCard : Claim7 := { stood := { row := escapeCutUptoRow, standIns := [], harness := (true, "a1991fd69d51a72722d2a82b90153b1e26452071702a085d10270e765b38019c"), looks := false }, kinds := [], alts := [], laidByText := true, laidKinds := [.data, .data, .pinned], laidTests := true, laidLooks := .later }
def EscapeCutUptoCardSaid : Prop := Claim7.holds Tryd.pinned (.plain (OpenSpec.upto escapeCutSpec)) escapeCutUptoCard
end Rows
end Go.Proofs.YthdggdjaicfapaaDoor
