/-
  DERIVED. GIVEN WITH THE SEED: THE CARDS: each row of YtphnahabonfmmaaGreatDoorRows.lean that lists a variable, with what it lists TIED to the program's text (the seventh form; the later family's looks); each row that meets fmt, with fmt's text TOLD by the authors' own Lean function (tested against real Go, not proved from fmt's source: count such statements apart). THE CARD IS WHAT COUNTS. Prove the row's statement (the work); the ties are given (YtphnahabonfmmaaGreatDoorTie.lean); close each card by the builder's one call (the guide's Derived/Test/ToyasCard.lean, 'card_holds'). Laid BY PROGRAM, IN A SANDBOX (cutbox-door.mjs). By AI agents, Wed Nov 11 2026. No macro, syntax, notation, axiom, sorry.
-/
import Derived.Test.YtphnahabonfmmaaGreatDoorRows
import GoSem.ClaimSeven
namespace Go.Proofs.YtphnahabonfmmaaGreatDoor
namespace Rows

/-- THE TIED CARD OF 'amanuensislaw13.GlyphKnown'. -/
def glyphKnownCard : Claim7 := { stood := { row := glyphKnownRow, standIns := [], harness := (true, "8ab467d3caae60f5cbf5497ef64fea439ffab7850d87b6e9bb8bb57401da5291"), looks := true }, kinds := [], alts := [], laidByText := true, laidKinds := [.data, .data, .data, .data, .data, .sentinel, .sentinel, .listed, .data, .data, .pinned], laidTests := true, laidLooks := .later }
def GlyphKnownCardSaid : Prop := Claim7.holds Tryz.pinned (.plain (OpenSpec.ofChange glyphKnownSpec)) glyphKnownCard

/-- THE TIED CARD OF 'amanuensislaw13.GlyphBytes'. -/
def glyphBytesCard : Claim7 := { stood := { row := glyphBytesRow, standIns := [], harness := (true, "8ab467d3caae60f5cbf5497ef64fea439ffab7850d87b6e9bb8bb57401da5291"), looks := true }, kinds := [], alts := [], laidByText := true, laidKinds := [.data, .data, .data, .data, .data, .sentinel, .sentinel, .listed, .data, .data, .pinned], laidTests := true, laidLooks := .later }
def GlyphBytesCardSaid : Prop := Claim7.holds Tryz.pinned (.plain (OpenSpec.ofChange glyphBytesSpec)) glyphBytesCard

/-- THE TIED CARD OF 'amanuensislaw15.ReadJoins'. -/
def readJoinsCard : Claim7 := { stood := { row := readJoinsRow, standIns := [], harness := (true, "8ab467d3caae60f5cbf5497ef64fea439ffab7850d87b6e9bb8bb57401da5291"), looks := true }, kinds := [], alts := [], laidByText := true, laidKinds := [.data, .data, .data, .data, .data, .wider, .sentinel, .sentinel, .listed, .data, .pinned], laidTests := true, laidLooks := .later }
def ReadJoinsCardSaid : Prop := Claim7.holds Tryz.pinned (.plain (OpenSpec.ofChange readJoinsSpec)) readJoinsCard

/-- THE TIED CARD OF 'amanuensislaw15.ReadShut'. -/
def readShutCard : Claim7 := { stood := { row := readShutRow, standIns := [], harness := (true, "8ab467d3caae60f5cbf5497ef64fea439ffab7850d87b6e9bb8bb57401da5291"), looks := true }, kinds := [], alts := [], laidByText := true, laidKinds := [.data, .data, .data, .data, .data, .wider, .sentinel, .sentinel, .listed, .data, .pinned], laidTests := true, laidLooks := .later }
def ReadShutCardSaid : Prop := Claim7.holds Tryz.pinned (.plain (OpenSpec.ofChange readShutSpec)) readShutCard

/-- THE SECOND FORM's CARD OF 'amanuensislaw13.GlyphKnown'. -/
def glyphKnownUptoCard : Claim7 := { stood := { row := glyphKnownUptoRow, standIns := [], harness := (true, "8ab467d3caae60f5cbf5497ef64fea439ffab7850d87b6e9bb8bb57401da5291"), looks := true }, kinds := [], alts := [], laidByText := true, laidKinds := [.data, .data, .data, .data, .data, .sentinel, .sentinel, .listed, .data, .data, .pinned], laidTests := true, laidLooks := .later }
def GlyphKnownUptoCardSaid : Prop := Claim7.holds Tryz.pinned (.plain (OpenSpec.upto glyphKnownSpec)) glyphKnownUptoCard

/-- THE SECOND FORM's CARD OF 'amanuensislaw13.GlyphBytes'. -/
def glyphBytesUptoCard : Claim7 := { stood := { row := glyphBytesUptoRow, standIns := [], harness := (true, "8ab467d3caae60f5cbf5497ef64fea439ffab7850d87b6e9bb8bb57401da5291"), looks := true }, kinds := [], alts := [], laidByText := true, laidKinds := [.data, .data, .data, .data, .data, .sentinel, .sentinel, .listed, .data, .data, .pinned], laidTests := true, laidLooks := .later }
def GlyphBytesUptoCardSaid : Prop := Claim7.holds Tryz.pinned (.plain (OpenSpec.upto glyphBytesSpec)) glyphBytesUptoCard

/-- THE SECOND FORM's CARD OF 'amanuensislaw15.ReadJoins'. -/
def readJoinsUptoCard : Claim7 := { stood := { row := readJoinsUptoRow, standIns := [], harness := (true, "8ab467d3caae60f5cbf5497ef64fea439ffab7850d87b6e9bb8bb57401da5291"), looks := true }, kinds := [], alts := [], laidByText := true, laidKinds := [.data, .data, .data, .data, .data, .wider, .sentinel, .sentinel, .listed, .data, .pinned], laidTests := true, laidLooks := .later }
def ReadJoinsUptoCardSaid : Prop := Claim7.holds Tryz.pinned (.plain (OpenSpec.upto readJoinsSpec)) readJoinsUptoCard

/-- THE SECOND FORM's CARD OF 'amanuensislaw15.ReadShut'. -/
def readShutUptoCard : Claim7 := { stood := { row := readShutUptoRow, standIns := [], harness := (true, "8ab467d3caae60f5cbf5497ef64fea439ffab7850d87b6e9bb8bb57401da5291"), looks := true }, kinds := [], alts := [], laidByText := true, laidKinds := [.data, .data, .data, .data, .data, .wider, .sentinel, .sentinel, .listed, .data, .pinned], laidTests := true, laidLooks := .later }
def ReadShutUptoCardSaid : Prop := Claim7.holds Tryz.pinned (.plain (OpenSpec.upto readShutSpec)) readShutUptoCard
end Rows
end Go.Proofs.YtphnahabonfmmaaGreatDoor
