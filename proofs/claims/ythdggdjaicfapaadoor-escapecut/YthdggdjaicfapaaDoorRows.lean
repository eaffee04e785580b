/-
  NARROWER THAN 'FOR EVERY INPUT', by the rows' own cells (each row's printed sentence says how): EscapeReads: laid · EscapePrints: laid · EscapeAll: laid · EscapeCut: laid.
  DERIVED. THE GIVEN ROWS OF THIS SEAT. 4 by the template 'for every input the law returns true; each argument reads behind the call as it read before'; 0 by the template 'total and deterministic' (their statements: YthdggdjaicfapaaDoorTotals.lean).
  GIVEN WITH THE SEED: the statements are not yours to turn. If you find one false, say at which input.
  Laid BY PROGRAM, IN A SANDBOX (cutbox-rows.mjs): the forced cells as the released guide's own fill.sh prints them over the translation f57114a8c616b138… (all of the seat's roots in one cut). By AI agents, Wed Nov 11 2026. No macro, syntax, notation, axiom, sorry.
-/
import Derived.Test.YthdggdjaicfapaaDoorChecked
import GoSem.PinnedTables
import GoSem.Claim
import GoSem.ClaimJoined
import GoSem.ClaimMapViews
import Derived.JoinedTies
import Derived.KernelRfl
namespace Go.Proofs.YthdggdjaicfapaaDoor
/- THE CELL 'sum', in the pinned program and in every row, IS THE sha256 OF THE DUMP (.gsa) THAT YthdggdjaicfapaaDoorProg.lean LOADS. Nothing in Lean hashes anything: it is a label: what it is worth is what the hold of that sum in a sandbox is worth. -/
noncomputable def Tryd.pinned : Pinned := { name := "ythdggdjaicfapaadoor", sum := "f57114a8c616b13829ed68de5c0fcad93fbc09c3d30c9d5c6e95d2f3f1258d53", checked := Tryd.checked }
namespace Rows
def none {H : Type} : Left H := { results := [], args := [] }

/- WHAT THE LISTED PACKAGE-LEVEL VARIABLES READ AS WHEN THE CALL BEGINS. Each datum BY PROGRAM (the guide's laid-datum.mjs) off the statement by which the dump's own 'gosem.cut.vars' lays the variable. In a bare row this is a premise. The card (YthdggdjaicfapaaDoorCards.lean) ties it to the program's text. -/
def laid_unicode_utf8_acceptRanges {H : Type} : DataW H := .agg [.agg [.lit (.int .u8 128), .lit (.int .u8 191)], .agg [.lit (.int .u8 160), .lit (.int .u8 191)], .agg [.lit (.int .u8 128), .lit (.int .u8 159)], .agg [.lit (.int .u8 144), .lit (.int .u8 191)], .agg [.lit (.int .u8 128), .lit (.int .u8 143)], .agg [.lit (.int .u8 0), .lit (.int .u8 0)], .agg [.lit (.int .u8 0), .lit (.int .u8 0)], .agg [.lit (.int .u8 0), .lit (.int .u8 0)], .agg [.lit (.int .u8 0), .lit (.int .u8 0)], .agg [.lit (.int .u8 0), .lit (.int .u8 0)], .agg [.lit (.int .u8 0), .lit (.int .u8 0)], .agg [.lit (.int .u8 0), .lit (.int .u8 0)], .agg [.lit (.int .u8 0), .lit (.int .u8 0)], .agg [.lit (.int .u8 0), .lit (.int .u8 0)], .agg [.lit (.int .u8 0), .lit (.int .u8 0)], .agg [.lit (.int .u8 0), .lit (.int .u8 0)]]
def laid_amanuensis_sets_lasts {H : Type} : DataW H := .agg [.lit (.string []), .lit (.string [66]), .lit (.string [33, 69]), .lit (.string [83]), .lit (.string [50]), .lit (.string [51]), .lit (.string [52]), .lit (.string [78]), .lit (.string [81]), .lit (.string [49]), .lit (.string [98]), .lit (.string [112]), .lit (.string [103])]
/-- One of Go's own tables, pinned by name: the form's constant. -/
def laid_unicode_utf8_first : DataW Unit := Go.Pinned.utf8First

/-- 'amanuensislaw14.EscapeReads': WHATEVER THE INPUT: true; the input reads as it did. -/
def escapeReadsSpec : ChangeSpec := { name := "escapeReads", fn := fun _ => fun
  | [d1, d2, d3] => { results := [.lit (.bool true)], args := [d1, d2, d3] }
  | _ => none }
def escapeReadsRow : OpenClaim := { program := "ythdggdjaicfapaadoor", sum := "f57114a8c616b13829ed68de5c0fcad93fbc09c3d30c9d5c6e95d2f3f1258d53", func := "amanuensis/amanuensislaw14.EscapeReads", spec := "escapeReads", named := ["unicode/utf8.first", "unicode/utf8.acceptRanges", "amanuensis/sets.lasts"], apart := false, laid := [("unicode/utf8.acceptRanges", laid_unicode_utf8_acceptRanges), ("amanuensis/sets.lasts", laid_amanuensis_sets_lasts), ("unicode/utf8.first", laid_unicode_utf8_first)] }
def EscapeReadsSaid : Prop := escapeReadsRow.holds Tryd.pinned (OpenSpec.ofChange escapeReadsSpec)

/-- ITS FALSE NEIGHBOUR: 'it returns false'. Refute it at one input. -/
def escapeReadsWrong : ChangeSpec := { name := "escapeReads", fn := fun _ => fun
  | [d1, d2, d3] => { results := [.lit (.bool false)], args := [d1, d2, d3] }
  | _ => none }
def EscapeReadsWrongFalsely : Prop := escapeReadsRow.holds Tryd.pinned (OpenSpec.ofChange escapeReadsWrong)

/-- 'amanuensislaw14.EscapePrints': WHATEVER THE INPUT: true; the input reads as it did. -/
def escapePrintsSpec : ChangeSpec := { name := "escapePrints", fn := fun _ => fun
  | [d1, d2] => { results := [.lit (.bool true)], args := [d1, d2] }
  | _ => none }
def escapePrintsRow : OpenClaim := { program := "ythdggdjaicfapaadoor", sum := "f57114a8c616b13829ed68de5c0fcad93fbc09c3d30c9d5c6e95d2f3f1258d53", func := "amanuensis/amanuensislaw14.EscapePrints", spec := "escapePrints", named := ["amanuensis/sets.lasts", "unicode/utf8.first", "unicode/utf8.acceptRanges"], apart := false, laid := [("unicode/utf8.acceptRanges", laid_unicode_utf8_acceptRanges), ("amanuensis/sets.lasts", laid_amanuensis_sets_lasts), ("unicode/utf8.first", laid_unicode_utf8_first)] }
def EscapePrintsSaid : Prop := escapePrintsRow.holds Tryd.pinned (OpenSpec.ofChange escapePrintsSpec)

/-- ITS FALSE NEIGHBOUR: 'it returns false'. Refute it at one input. -/
def escapePrintsWrong : ChangeSpec := { name := "escapePrints", fn := fun _ => fun
  | [d1, d2] => { results := [.lit (.bool false)], args := [d1, d2] }
  | _ => none }
def EscapePrintsWrongFalsely : Prop := escapePrintsRow.holds Tryd.pinned (OpenSpec.ofChange escapePrintsWrong)

/-- 'amanuensislaw14.EscapeAll': WHATEVER THE INPUT: true; the input reads as it did. -/
def escapeAllSpec : ChangeSpec := { name := "escapeAll", fn := fun _ => fun
  | [d1, d2, d3, d4] => { results := [.lit (.bool true)], args := [d1, d2, d3, d4] }
  | _ => none }
def escapeAllRow : OpenClaim := { program := "ythdggdjaicfapaadoor", sum := "f57114a8c616b13829ed68de5c0fcad93fbc09c3d30c9d5c6e95d2f3f1258d53", func := "amanuensis/amanuensislaw14.EscapeAll", spec := "escapeAll", named := ["unicode/utf8.first", "unicode/utf8.acceptRanges", "amanuensis/sets.lasts"], apart := false, laid := [("unicode/utf8.acceptRanges", laid_unicode_utf8_acceptRanges), ("amanuensis/sets.lasts", laid_amanuensis_sets_lasts), ("unicode/utf8.first", laid_unicode_utf8_first)] }
def EscapeAllSaid : Prop := escapeAllRow.holds Tryd.pinned (OpenSpec.ofChange escapeAllSpec)

/-- ITS FALSE NEIGHBOUR: 'it returns false'. Refute it at one input. -/
def escapeAllWrong : ChangeSpec := { name := "escapeAll", fn := fun _ => fun
  | [d1, d2, d3, d4] => { results := [.lit (.bool false)], args := [d1, d2, d3, d4] }
  | _ => none }
def EscapeAllWrongFalsely : Prop := escapeAllRow.holds Tryd.pinned (OpenSpec.ofChange escapeAllWrong)

/-- 'amanuensislaw14.EscapeCut': WHATEVER THE INPUT: true; the input reads as it did. -/
def escapeCutSpec : ChangeSpec := { name := "escapeCut", fn := fun _ => fun
  | [d1, d2, d3] => { results := [.lit (.bool true)], args := [d1, d2, d3] }
  | _ => none }
def escapeCutRow : OpenClaim := { program := "ythdggdjaicfapaadoor", sum := "f57114a8c616b13829ed68de5c0fcad93fbc09c3d30c9d5c6e95d2f3f1258d53", func := "amanuensis/amanuensislaw14.EscapeCut", spec := "escapeCut", named := ["unicode/utf8.first", "unicode/utf8.acceptRanges", "amanuensis/sets.lasts"], apart := false, laid := [("unicode/utf8.acceptRanges", laid_unicode_utf8_acceptRanges), ("amanuensis/sets.lasts", laid_amanuensis_sets_lasts), ("unicode/utf8.first", laid_unicode_utf8_first)] }
def EscapeCutSaid : Prop := escapeCutRow.holds Tryd.pinned (OpenSpec.ofChange escapeCutSpec)

/-- ITS FALSE NEIGHBOUR: 'it returns false'. Refute it at one input. -/
def escapeCutWrong : ChangeSpec := { name := "escapeCut", fn := fun _ => fun
  | [d1, d2, d3] => { results := [.lit (.bool false)], args := [d1, d2, d3] }
  | _ => none }
def EscapeCutWrongFalsely : Prop := escapeCutRow.holds Tryd.pinned (OpenSpec.ofChange escapeCutWrong)

/- THE SECOND FORM. 'bulk': how many values and letters a reading holds, each counted each time it is reached (what is shared counts as often as it is met; a slice's spare places count too). A statement '..UptoSaid' is the law's where the arguments, and the package variables that the reading takes, are together of bulk at most 1048576: NARROWER than '..Said'. Prove '..Said' where nothing that the law and all that it calls make is longer than what came in: it says more and counts as full. Else prove '..UptoSaid'. A law counts once. -/
mutual
def uptoBulk {H : Type} : DataW H → Nat
  | .lit (.string bytes) => bytes.length + 1
  | .lit _ => 1
  | .nil => 1
  | .ptr d => uptoBulk d + 1
  | .slice elems spare => uptoBulkAll elems + uptoBulkAll spare + 1
  | .agg parts => uptoBulkAll parts + 1
  | .iface _ d => uptoBulk d + 1
  | .map entries => uptoBulkEntries entries + 1
  | .held _ => 1
def uptoBulkAll {H : Type} : List (DataW H) → Nat
  | [] => 0
  | d :: r => uptoBulk d + uptoBulkAll r
def uptoBulkEntries {H : Type} : List (Lit × DataW H) → Nat
  | [] => 0
  | x :: r => uptoBulkEntry x + uptoBulkEntries r
def uptoBulkEntry {H : Type} : Lit × DataW H → Nat
  | (.string bytes, d) => bytes.length + uptoBulk d + 1
  | (_, d) => uptoBulk d + 1
 end
def uptoSmall : (H : Type) → List (DataW H) → Bool := fun _ ds => decide (uptoBulkAll ds ≤ 1048576)
def OpenSpec.upto (s : _root_.Go.ChangeSpec) : _root_.Go.OpenSpec := { _root_.Go.OpenSpec.ofChange s with cond := some uptoSmall }

/-- 'amanuensislaw14.EscapeReads', WHERE WHAT IT READS IS OF BULK AT MOST 1048576: true; the input reads as it did. -/
def escapeReadsUptoRow : OpenClaim := { program := "ythdggdjaicfapaadoor", sum := "f57114a8c616b13829ed68de5c0fcad93fbc09c3d30c9d5c6e95d2f3f1258d53", func := "amanuensis/amanuensislaw14.EscapeReads", spec := "escapeReads", named := ["unicode/utf8.first", "unicode/utf8.acceptRanges", "amanuensis/sets.lasts"], apart := false, laid := [("unicode/utf8.acceptRanges", laid_unicode_utf8_acceptRanges), ("amanuensis/sets.lasts", laid_amanuensis_sets_lasts), ("unicode/utf8.first", laid_unicode_utf8_first)], narrowed := true }
def EscapeReadsUptoSaid : Prop := escapeReadsUptoRow.holds Tryd.pinned (OpenSpec.upto escapeReadsSpec)

/-- 'amanuensislaw14.EscapePrints', WHERE WHAT IT READS IS OF BULK AT MOST 1048576: true; the input reads as it did. -/
def escapePrintsUptoRow : OpenClaim := { program := "ythdggdjaicfapaadoor", sum := "f57114a8c616b13829ed68de5c0fcad93fbc09c3d30c9d5c6e95d2f3f1258d53", func := "amanuensis/amanuensislaw14.EscapePrints", spec := "escapePrints", named := ["amanuensis/sets.lasts", "unicode/utf8.first", "unicode/utf8.acceptRanges"], apart := false, laid := [("unicode/utf8.acceptRanges", laid_unicode_utf8_acceptRanges), ("amanuensis/sets.lasts", laid_amanuensis_sets_lasts), ("unicode/utf8.first", laid_unicode_utf8_first)], narrowed := true }
def EscapePrintsUptoSaid : Prop := escapePrintsUptoRow.holds Tryd.pinned (OpenSpec.upto escapePrintsSpec)

/-- 'amanuensislaw14.EscapeAll', WHERE WHAT IT READS IS OF BULK AT MOST 1048576: true; the input reads as it did. -/
def escapeAllUptoRow : OpenClaim := { program := "ythdggdjaicfapaadoor", sum := "f57114a8c616b13829ed68de5c0fcad93fbc09c3d30c9d5c6e95d2f3f1258d53", func := "amanuensis/amanuensislaw14.EscapeAll", spec := "escapeAll", named := ["unicode/utf8.first", "unicode/utf8.acceptRanges", "amanuensis/sets.lasts"], apart := false, laid := [("unicode/utf8.acceptRanges", laid_unicode_utf8_acceptRanges), ("amanuensis/sets.lasts", laid_amanuensis_sets_lasts), ("unicode/utf8.first", laid_unicode_utf8_first)], narrowed := true }
def EscapeAllUptoSaid : Prop := escapeAllUptoRow.holds Tryd.pinned (OpenSpec.upto escapeAllSpec)

/-- 'amanuensislaw14.EscapeCut', WHERE WHAT IT READS IS OF BULK AT MOST 1048576: true; the input reads as it did. -/
def escapeCutUptoRow : OpenClaim := { program := "ythdggdjaicfapaadoor", sum := "f57114a8c616b13829ed68de5c0fcad93fbc09c3d30c9d5c6e95d2f3f1258d53", func := "amanuensis/amanuensislaw14.EscapeCut", spec := "escapeCut", named := ["unicode/utf8.first", "unicode/utf8.acceptRanges", "amanuensis/sets.lasts"], apart := false, laid := [("unicode/utf8.acceptRanges", laid_unicode_utf8_acceptRanges), ("amanuensis/sets.lasts", laid_amanuensis_sets_lasts), ("unicode/utf8.first", laid_unicode_utf8_first)], narrowed := true }
def EscapeCutUptoSaid : Prop := escapeCutUptoRow.holds Tryd.pinned (OpenSpec.upto escapeCutSpec)

end Rows
end Go.Proofs.YthdggdjaicfapaaDoor
