/-
  NARROWER THAN 'FOR EVERY INPUT', by the rows' own cells (each row's printed sentence says how): SetsNames: laid · SetsApart: laid · SetsLeast: laid · SetsNone: laid.
  DERIVED. THE GIVEN ROWS OF THIS SEAT. 4 by the template 'for every input the law returns true; each argument reads behind the call as it read before'; 0 by the template 'total and deterministic' (their statements: YtmghmhhiahmjaaaDoorTotals.lean).
  GIVEN WITH THE SEED: the statements are not yours to turn. If you find one false, say at which input.
  Laid BY PROGRAM, IN A SANDBOX (cutbox-rows.mjs): the forced cells as the released guide's own fill.sh prints them over the translation 6c7defc87437932d… (all of the seat's roots in one cut). By AI agents, Wed Nov 11 2026. No macro, syntax, notation, axiom, sorry.
-/
import Derived.Test.YtmghmhhiahmjaaaDoorChecked
import GoSem.Claim
import GoSem.ClaimJoined
import GoSem.ClaimMapViews
import Derived.JoinedTies
import Derived.KernelRfl
namespace Go.Proofs.YtmghmhhiahmjaaaDoor
/- THE CELL 'sum', in the pinned program and in every row, IS THE sha256 OF THE DUMP (.gsa) THAT YtmghmhhiahmjaaaDoorProg.lean LOADS. Nothing in Lean hashes anything: it is a label: what it is worth is what the hold of that sum in a sandbox is worth. -/
noncomputable def Tryd.pinned : Pinned := { name := "ytmghmhhiahmjaaadoor", sum := "6c7defc87437932d8ea417ffcbd77767b04bedc2a947507d56446820dfeb01bb", checked := Tryd.checked }
namespace Rows
def none {H : Type} : Left H := { results := [], args := [] }

/- WHAT THE LISTED PACKAGE-LEVEL VARIABLES READ AS WHEN THE CALL BEGINS. Each datum BY PROGRAM (the guide's laid-datum.mjs) off the statement by which the dump's own 'gosem.cut.vars' lays the variable. In a bare row this is a premise. The card (YtmghmhhiahmjaaaDoorCards.lean) ties it to the program's text. -/
def laid_amanuensis_sets_lasts {H : Type} : DataW H := .agg [.lit (.string []), .lit (.string [66]), .lit (.string [33, 69]), .lit (.string [83]), .lit (.string [50]), .lit (.string [51]), .lit (.string [52]), .lit (.string [78]), .lit (.string [81]), .lit (.string [49]), .lit (.string [98]), .lit (.string [112]), .lit (.string [103])]

/-- 'amanuensislaw08.SetsNames': WHATEVER THE INPUT: true; the input reads as it did. -/
def setsNamesSpec : ChangeSpec := { name := "setsNames", fn := fun _ => fun
  | [d1, d2] => { results := [.lit (.bool true)], args := [d1, d2] }
  | _ => none }
def setsNamesRow : OpenClaim := { program := "ytmghmhhiahmjaaadoor", sum := "6c7defc87437932d8ea417ffcbd77767b04bedc2a947507d56446820dfeb01bb", func := "amanuensis/amanuensislaw08.SetsNames", spec := "setsNames", named := ["amanuensis/sets.lasts"], apart := false, laid := [("amanuensis/sets.lasts", laid_amanuensis_sets_lasts)] }
def SetsNamesSaid : Prop := setsNamesRow.holds Tryd.pinned (OpenSpec.ofChange setsNamesSpec)

/-- ITS FALSE NEIGHBOUR: 'it returns false'. Refute it at one input. -/
def setsNamesWrong : ChangeSpec := { name := "setsNames", fn := fun _ => fun
  | [d1, d2] => { results := [.lit (.bool false)], args := [d1, d2] }
  | _ => none }
def SetsNamesWrongFalsely : Prop := setsNamesRow.holds Tryd.pinned (OpenSpec.ofChange setsNamesWrong)

/-- 'amanuensislaw08.SetsApart': WHATEVER THE INPUT: true; the input reads as it did. -/
def setsApartSpec : ChangeSpec := { name := "setsApart", fn := fun _ => fun
  | [d1, d2, d3, d4] => { results := [.lit (.bool true)], args := [d1, d2, d3, d4] }
  | _ => none }
def setsApartRow : OpenClaim := { program := "ytmghmhhiahmjaaadoor", sum := "6c7defc87437932d8ea417ffcbd77767b04bedc2a947507d56446820dfeb01bb", func := "amanuensis/amanuensislaw08.SetsApart", spec := "setsApart", named := ["amanuensis/sets.lasts"], apart := false, laid := [("amanuensis/sets.lasts", laid_amanuensis_sets_lasts)] }
def SetsApartSaid : Prop := setsApartRow.holds Tryd.pinned (OpenSpec.ofChange setsApartSpec)

/-- ITS FALSE NEIGHBOUR: 'it returns false'. Refute it at one input. -/
def setsApartWrong : ChangeSpec := { name := "setsApart", fn := fun _ => fun
  | [d1, d2, d3, d4] => { results := [.lit (.bool false)], args := [d1, d2, d3, d4] }
  | _ => none }
def SetsApartWrongFalsely : Prop := setsApartRow.holds Tryd.pinned (OpenSpec.ofChange setsApartWrong)

/-- 'amanuensislaw08.SetsLeast': WHATEVER THE INPUT: true; the input reads as it did. -/
def setsLeastSpec : ChangeSpec := { name := "setsLeast", fn := fun _ => fun
  | [d] => { results := [.lit (.bool true)], args := [d] }
  | _ => none }
def setsLeastRow : OpenClaim := { program := "ytmghmhhiahmjaaadoor", sum := "6c7defc87437932d8ea417ffcbd77767b04bedc2a947507d56446820dfeb01bb", func := "amanuensis/amanuensislaw08.SetsLeast", spec := "setsLeast", named := ["amanuensis/sets.lasts"], apart := false, laid := [("amanuensis/sets.lasts", laid_amanuensis_sets_lasts)] }
def SetsLeastSaid : Prop := setsLeastRow.holds Tryd.pinned (OpenSpec.ofChange setsLeastSpec)

/-- ITS FALSE NEIGHBOUR: 'it returns false'. Refute it at one input. -/
def setsLeastWrong : ChangeSpec := { name := "setsLeast", fn := fun _ => fun
  | [d] => { results := [.lit (.bool false)], args := [d] }
  | _ => none }
def SetsLeastWrongFalsely : Prop := setsLeastRow.holds Tryd.pinned (OpenSpec.ofChange setsLeastWrong)

/-- 'amanuensislaw08.SetsNone': WHATEVER THE INPUT: true; the input reads as it did. -/
def setsNoneSpec : ChangeSpec := { name := "setsNone", fn := fun _ => fun
  | [d1, d2] => { results := [.lit (.bool true)], args := [d1, d2] }
  | _ => none }
def setsNoneRow : OpenClaim := { program := "ytmghmhhiahmjaaadoor", sum := "6c7defc87437932d8ea417ffcbd77767b04bedc2a947507d56446820dfeb01bb", func := "amanuensis/amanuensislaw08.SetsNone", spec := "setsNone", named := ["amanuensis/sets.lasts"], apart := false, laid := [("amanuensis/sets.lasts", laid_amanuensis_sets_lasts)] }
def SetsNoneSaid : Prop := setsNoneRow.holds Tryd.pinned (OpenSpec.ofChange setsNoneSpec)

/-- ITS FALSE NEIGHBOUR: 'it returns false'. Refute it at one input. -/
def setsNoneWrong : ChangeSpec := { name := "setsNone", fn := fun _ => fun
  | [d1, d2] => { results := [.lit (.bool false)], args := [d1, d2] }
  | _ => none }
def SetsNoneWrongFalsely : Prop := setsNoneRow.holds Tryd.pinned (OpenSpec.ofChange setsNoneWrong)

/- THE SECOND FORM. 'bulk': how many values and letters a reading holds, each counted each time it is reached (what is shared counts as often as it is met; a slice's spare places count too). A statement '..UptoSaid' is the law's where the arguments, and the package variables that the reading takes, are together of bulk at most 1048576: NARROWER than '..Said'. Prove '..Said' where nothing that the law and all that it calls make is longer than what came in: it says more and counts as full. Else prove '..UptoSaid'. A law counts once. -/
mutual
def uptoBulk {H : Type} : DataW H → Nat
  | .lit (.string bytes) => bytes.length + 1
  | .lit _ => 1
  | .nil => 1
  | .ptr d => uptoBulk d + 1
  | .slice elems spare => uptoBulkAll elems + uptoBulkAll spare + 1
  | .agg parts => uptoBulkAll parts + 1
  | .iface _ d => uptoBulk d + 1
  | .map entries => uptoBulkEntries entries + 1
  | .held _ => 1
def uptoBulkAll {H : Type} : List (DataW H) → Nat
  | [] => 0
  | d :: r => uptoBulk d + uptoBulkAll r
def uptoBulkEntries {H : Type} : List (Lit × DataW H) → Nat
  | [] => 0
  | x :: r => uptoBulkEntry x + uptoBulkEntries r
def uptoBulkEntry {H : Type} : Lit × DataW H → Nat
  | (.string bytes, d) => bytes.length + uptoBulk d + 1
  | (_, d) => uptoBulk d + 1
 end
def uptoSmall : (H : Type) → List (DataW H) → Bool := fun _ ds => decide (uptoBulkAll ds ≤ 1048576)
def OpenSpec.upto (s : _root_.Go.ChangeSpec) : _root_.Go.OpenSpec := { _root_.Go.OpenSpec.ofChange s with cond := some uptoSmall }

/-- 'amanuensislaw08.SetsNames', WHERE WHAT IT READS IS OF BULK AT MOST 1048576: true; the input reads as it did. -/
def setsNamesUptoRow : OpenClaim := { program := "ytmghmhhiahmjaaadoor", sum := "6c7defc87437932d8ea417ffcbd77767b04bedc2a947507d56446820dfeb01bb", func := "amanuensis/amanuensislaw08.SetsNames", spec := "setsNames", named := ["amanuensis/sets.lasts"], apart := false, laid := [("amanuensis/sets.lasts", laid_amanuensis_sets_lasts)], narrowed := true }
def SetsNamesUptoSaid : Prop := setsNamesUptoRow.holds Tryd.pinned (OpenSpec.upto setsNamesSpec)

/-- 'amanuensislaw08.SetsApart', WHERE WHAT IT READS IS OF BULK AT MOST 1048576: true; the input reads as it did. -/
def setsApartUptoRow : OpenClaim := { program := "ytmghmhhiahmjaaadoor", sum := "6c7defc87437932d8ea417ffcbd77767b04bedc2a947507d56446820dfeb01bb", func := "amanuensis/amanuensislaw08.SetsApart", spec := "setsApart", named := ["amanuensis/sets.lasts"], apart := false, laid := [("amanuensis/sets.lasts", laid_amanuensis_sets_lasts)], narrowed := true }
def SetsApartUptoSaid : Prop := setsApartUptoRow.holds Tryd.pinned (OpenSpec.upto setsApartSpec)

/-- 'amanuensislaw08.SetsLeast', WHERE WHAT IT READS IS OF BULK AT MOST 1048576: true; the input reads as it did. -/
def setsLeastUptoRow : OpenClaim := { program := "ytmghmhhiahmjaaadoor", sum := "6c7defc87437932d8ea417ffcbd77767b04bedc2a947507d56446820dfeb01bb", func := "amanuensis/amanuensislaw08.SetsLeast", spec := "setsLeast", named := ["amanuensis/sets.lasts"], apart := false, laid := [("amanuensis/sets.lasts", laid_amanuensis_sets_lasts)], narrowed := true }
def SetsLeastUptoSaid : Prop := setsLeastUptoRow.holds Tryd.pinned (OpenSpec.upto setsLeastSpec)

/-- 'amanuensislaw08.SetsNone', WHERE WHAT IT READS IS OF BULK AT MOST 1048576: true; the input reads as it did. -/
def setsNoneUptoRow : OpenClaim := { program := "ytmghmhhiahmjaaadoor", sum := "6c7defc87437932d8ea417ffcbd77767b04bedc2a947507d56446820dfeb01bb", func := "amanuensis/amanuensislaw08.SetsNone", spec := "setsNone", named := ["amanuensis/sets.lasts"], apart := false, laid := [("amanuensis/sets.lasts", laid_amanuensis_sets_lasts)], narrowed := true }
def SetsNoneUptoSaid : Prop := setsNoneUptoRow.holds Tryd.pinned (OpenSpec.upto setsNoneSpec)

end Rows
end Go.Proofs.YtmghmhhiahmjaaaDoor
