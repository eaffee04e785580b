/-
  DERIVED. GIVEN WITH THE SEED: THE CARDS: each row of YtfggeofknmdmfaaDoorRows.lean that lists a variable, with what it lists TIED to the program's text (the seventh form; the later family's looks); each row that meets fmt, with fmt's text TOLD by the authors' own Lean function (tested against real Go, not proved from fmt's source: count such statements apart). THE CARD IS WHAT COUNTS. Prove the row's statement (the work); the ties are given (YtfggeofknmdmfaaDoorTie.lean); close each card by the builder's one call (the guide's Derived/Test/ToyasCard.lean, 'card_holds'). Laid BY PROGRAM, IN A SANDBOX (cutbox-door.mjs). By AI agents, Wed Nov 11 2026. No macro, syntax, notation, axiom, sorry.
-/
import Derived.Test.YtfggeofknmdmfaaDoorRows
import GoSem.ClaimSeven
namespace Go.Proofs.YtfggeofknmdmfaaDoor
namespace Rows

/-- THE TIED CARD OF 'amanuensislaw02.NcrPrints'. -/
def ncrPrintsCard : Claim7 := { stood := { row := ncrPrintsRow, standIns := [], harness := (true, "77418eb7df7f9498cf228524ed9089458d6e50f1603b2cf91a8de290dc305830"), looks := true }, kinds := [], alts := [], laidByText := true, laidKinds := [.data, .data, .data, .data, .sentinel, .sentinel, .pinned, .pinned], laidTests := true, laidLooks := .later }
def NcrPrintsCardSaid : Prop := Claim7.holds Tryd.pinned (.plain (OpenSpec.ofChange ncrPrintsSpec)) ncrPrintsCard

/-- THE TIED CARD OF 'amanuensislaw02.NcrScans'. -/
def ncrScansCard : Claim7 := { stood := { row := ncrScansRow, standIns := [], harness := (true, "77418eb7df7f9498cf228524ed9089458d6e50f1603b2cf91a8de290dc305830"), looks := true }, kinds := [], alts := [], laidByText := true, laidKinds := [.data, .data, .data, .data, .sentinel, .sentinel, .pinned, .pinned], laidTests := true, laidLooks := .later }
def NcrScansCardSaid : Prop := Claim7.holds Tryd.pinned (.plain (OpenSpec.ofChange ncrScansSpec)) ncrScansCard

/-- THE TIED CARD OF 'amanuensislaw02.NcrBack'. -/
def ncrBackCard : Claim7 := { stood := { row := ncrBackRow, standIns := [], harness := (true, "77418eb7df7f9498cf228524ed9089458d6e50f1603b2cf91a8de290dc305830"), looks := true }, kinds := [], alts := [], laidByText := true, laidKinds := [.data, .data, .data, .data, .sentinel, .sentinel, .pinned, .pinned], laidTests := true, laidLooks := .later }
def NcrBackCardSaid : Prop := Claim7.holds Tryd.pinned (.plain (OpenSpec.ofChange ncrBackSpec)) ncrBackCard

/-- THE TIED CARD OF 'amanuensislaw02.NcrAgain'. -/
def ncrAgainCard : Claim7 := { stood := { row := ncrAgainRow, standIns := [], harness := (true, "77418eb7df7f9498cf228524ed9089458d6e50f1603b2cf91a8de290dc305830"), looks := true }, kinds := [], alts := [], laidByText := true, laidKinds := [.data, .data, .data, .data, .sentinel, .sentinel, .pinned, .pinned], laidTests := true, laidLooks := .later }
def NcrAgainCardSaid : Prop := Claim7.holds Tryd.pinned (.plain (OpenSpec.ofChange ncrAgainSpec)) ncrAgainCard

/-- THE TIED CARD OF 'amanuensislaw02.NcrJoins'. -/
def ncrJoinsCard : Claim7 := { stood := { row := ncrJoinsRow, standIns := [], harness := (true, "77418eb7df7f9498cf228524ed9089458d6e50f1603b2cf91a8de290dc305830"), looks := true }, kinds := [], alts := [], laidByText := true, laidKinds := [.data, .data, .data, .data, .sentinel, .sentinel, .pinned, .pinned], laidTests := true, laidLooks := .later }
def NcrJoinsCardSaid : Prop := Claim7.holds Tryd.pinned (.plain (OpenSpec.ofChange ncrJoinsSpec)) ncrJoinsCard

/-- THE SECOND FORM's CARD OF 'amanuensislaw02.NcrPrints'. -/
def ncrPrintsUptoCard : Claim7 := { stood := { row := ncrPrintsUptoRow, standIns := [], harness := (true, "77418eb7df7f9498cf228524ed9089458d6e50f1603b2cf91a8de290dc305830"), looks := true }, kinds := [], alts := [], laidByText := true, laidKinds := [.data, .data, .data, .data, .sentinel, .sentinel, .pinned, .pinned], laidTests := true, laidLooks := .later }
def NcrPrintsUptoCardSaid : Prop := Claim7.holds Tryd.pinned (.plain (OpenSpec.upto ncrPrintsSpec)) ncrPrintsUptoCard

/-- THE SECOND FORM's CARD OF 'amanuensislaw02.NcrScans'. -/
def ncrScansUptoCard : Claim7 := { stood := { row := ncrScansUptoRow, standIns := [], harness := (true, "77418eb7df7f9498cf228524ed9089458d6e50f1603b2cf91a8de290dc305830"), looks := true }, kinds := [], alts := [], laidByText := true, laidKinds := [.data, .data, .data, .data, .sentinel, .sentinel, .pinned, .pinned], laidTests := true, laidLooks := .later }
def NcrScansUptoCardSaid : Prop := Claim7.holds Tryd.pinned (.plain (OpenSpec.upto ncrScansSpec)) ncrScansUptoCard

/-- THE SECOND FORM's CARD OF 'amanuensislaw02.NcrBack'. -/
def ncrBackUptoCard : Claim7 := { stood := { row := ncrBackUptoRow, standIns := [], harness := (true, "77418eb7df7f9498cf228524ed9089458d6e50f1603b2cf91a8de290dc305830"), looks := true }, kinds := [], alts := [], laidByText := true, laidKinds := [.data, .data, .data, .data, .sentinel, .sentinel, .pinned, .pinned], laidTests := true, laidLooks := .later }
def NcrBackUptoCardSaid : Prop := Claim7.holds Tryd.pinned (.plain (OpenSpec.upto ncrBackSpec)) ncrBackUptoCard

/-- THE SECOND FORM's CARD OF 'amanuensislaw02.NcrAgain'. -/
def ncrAgainUptoCard : Claim7 := { stood := { row := ncrAgainUptoRow, standIns := [], harness := (true, "77418eb7df7f9498cf228524ed9089458d6e50f1603b2cf91a8de290dc305830"), looks := true }, kinds := [], alts := [], laidByText := true, laidKinds := [.data, .data, .data, .data, .sentinel, .sentinel, .pinned, .pinned], laidTests := true, laidLooks := .later }
def NcrAgainUptoCardSaid : Prop := Claim7.holds Tryd.pinned (.plain (OpenSpec.upto ncrAgainSpec)) ncrAgainUptoCard

/-- THE SECOND FORM's CARD OF 'amanuensislaw02.NcrJoins'. -/
def ncrJoinsUptoCard : Claim7 := { stood := { row := ncrJoinsUptoRow, standIns := [], harness := (true, "77418eb7df7f9498cf228524ed9089458d6e50f1603b2cf91a8de290dc305830"), looks := true }, kinds := [], alts := [], laidByText := true, laidKinds := [.data, .data, .data, .data, .sentinel, .sentinel, .pinned, .pinned], laidTests := true, laidLooks := .later }
def NcrJoinsUptoCardSaid : Prop := Claim7.holds Tryd.pinned (.plain (OpenSpec.upto ncrJoinsSpec)) ncrJoinsUptoCard
end Rows
end Go.Proofs.YtfggeofknmdmfaaDoor
