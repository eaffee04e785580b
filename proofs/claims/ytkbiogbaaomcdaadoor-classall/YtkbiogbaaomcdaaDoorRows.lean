/-
  NARROWER THAN 'FOR EVERY INPUT', by the rows' own cells (each row's printed sentence says how): ClassOf: laid · ClassAll: laid · ClassBounds: laid · ClassSteps: laid.
  DERIVED. THE GIVEN ROWS OF THIS SEAT. 4 by the template 'for every input the law returns true; each argument reads behind the call as it read before'; 0 by the template 'total and deterministic' (their statements: YtkbiogbaaomcdaaDoorTotals.lean).
  GIVEN WITH THE SEED: the statements are not yours to turn. If you find one false, say at which input.
  Laid BY PROGRAM, IN A SANDBOX (cutbox-rows.mjs): the forced cells as the released guide's own fill.sh prints them over the translation b4a61dd8573276df… (all of the seat's roots in one cut). By AI agents, Wed Nov 11 2026. No macro, syntax, notation, axiom, sorry.
-/
import Derived.Test.YtkbiogbaaomcdaaDoorChecked
import GoSem.Claim
import GoSem.ClaimJoined
import GoSem.ClaimMapViews
import Derived.JoinedTies
import Derived.KernelRfl
namespace Go.Proofs.YtkbiogbaaomcdaaDoor
/- THE CELL 'sum', in the pinned program and in every row, IS THE sha256 OF THE DUMP (.gsa) THAT YtkbiogbaaomcdaaDoorProg.lean LOADS. Nothing in Lean hashes anything: it is a label: what it is worth is what the hold of that sum in a sandbox is worth. -/
noncomputable def Tryd.pinned : Pinned := { name := "ytkbiogbaaomcdaadoor", sum := "b4a61dd8573276df71f363f0d6486101279cb6596b17ee80ced62694afa9f2db", checked := Tryd.checked }
namespace Rows
def none {H : Type} : Left H := { results := [], args := [] }

/- WHAT THE LISTED PACKAGE-LEVEL VARIABLES READ AS WHEN THE CALL BEGINS. Each datum BY PROGRAM (the guide's laid-datum.mjs) off the statement by which the dump's own 'gosem.cut.vars' lays the variable. In a bare row this is a premise. The card (YtkbiogbaaomcdaaDoorCards.lean) ties it to the program's text. -/
def laid_amanuensis_class_spans {H : Type} : DataW H := .agg [.agg [.lit (.int .i32 768), .lit (.int .i32 788), .lit (.int .u8 230), .lit (.int .u8 0)], .agg [.lit (.int .i32 789), .lit (.int .i32 789), .lit (.int .u8 232), .lit (.int .u8 0)], .agg [.lit (.int .i32 790), .lit (.int .i32 793), .lit (.int .u8 220), .lit (.int .u8 0)], .agg [.lit (.int .i32 794), .lit (.int .i32 794), .lit (.int .u8 232), .lit (.int .u8 0)], .agg [.lit (.int .i32 795), .lit (.int .i32 795), .lit (.int .u8 216), .lit (.int .u8 0)], .agg [.lit (.int .i32 796), .lit (.int .i32 800), .lit (.int .u8 220), .lit (.int .u8 0)], .agg [.lit (.int .i32 801), .lit (.int .i32 802), .lit (.int .u8 202), .lit (.int .u8 0)], .agg [.lit (.int .i32 803), .lit (.int .i32 806), .lit (.int .u8 220), .lit (.int .u8 0)], .agg [.lit (.int .i32 807), .lit (.int .i32 808), .lit (.int .u8 202), .lit (.int .u8 0)], .agg [.lit (.int .i32 809), .lit (.int .i32 819), .lit (.int .u8 220), .lit (.int .u8 0)], .agg [.lit (.int .i32 820), .lit (.int .i32 824), .lit (.int .u8 1), .lit (.int .u8 0)], .agg [.lit (.int .i32 825), .lit (.int .i32 828), .lit (.int .u8 220), .lit (.int .u8 0)], .agg [.lit (.int .i32 829), .lit (.int .i32 836), .lit (.int .u8 230), .lit (.int .u8 0)], .agg [.lit (.int .i32 837), .lit (.int .i32 837), .lit (.int .u8 240), .lit (.int .u8 0)], .agg [.lit (.int .i32 838), .lit (.int .i32 838), .lit (.int .u8 230), .lit (.int .u8 0)], .agg [.lit (.int .i32 839), .lit (.int .i32 841), .lit (.int .u8 220), .lit (.int .u8 0)], .agg [.lit (.int .i32 842), .lit (.int .i32 844), .lit (.int .u8 230), .lit (.int .u8 0)], .agg [.lit (.int .i32 845), .lit (.int .i32 846), .lit (.int .u8 220), .lit (.int .u8 0)], .agg [.lit (.int .i32 848), .lit (.int .i32 850), .lit (.int .u8 230), .lit (.int .u8 0)], .agg [.lit (.int .i32 851), .lit (.int .i32 854), .lit (.int .u8 220), .lit (.int .u8 0)], .agg [.lit (.int .i32 855), .lit (.int .i32 855), .lit (.int .u8 230), .lit (.int .u8 0)], .agg [.lit (.int .i32 859), .lit (.int .i32 859), .lit (.int .u8 230), .lit (.int .u8 0)], .agg [.lit (.int .i32 860), .lit (.int .i32 860), .lit (.int .u8 233), .lit (.int .u8 0)], .agg [.lit (.int .i32 861), .lit (.int .i32 862), .lit (.int .u8 234), .lit (.int .u8 0)], .agg [.lit (.int .i32 863), .lit (.int .i32 863), .lit (.int .u8 233), .lit (.int .u8 0)], .agg [.lit (.int .i32 864), .lit (.int .i32 865), .lit (.int .u8 234), .lit (.int .u8 0)], .agg [.lit (.int .i32 866), .lit (.int .i32 866), .lit (.int .u8 233), .lit (.int .u8 0)], .agg [.lit (.int .i32 867), .lit (.int .i32 879), .lit (.int .u8 230), .lit (.int .u8 0)], .agg [.lit (.int .i32 1456), .lit (.int .i32 1464), .lit (.int .u8 10), .lit (.int .u8 1)], .agg [.lit (.int .i32 1465), .lit (.int .i32 1466), .lit (.int .u8 19), .lit (.int .u8 0)], .agg [.lit (.int .i32 1467), .lit (.int .i32 1469), .lit (.int .u8 20), .lit (.int .u8 1)], .agg [.lit (.int .i32 1471), .lit (.int .i32 1471), .lit (.int .u8 23), .lit (.int .u8 0)], .agg [.lit (.int .i32 1473), .lit (.int .i32 1474), .lit (.int .u8 24), .lit (.int .u8 1)], .agg [.lit (.int .i32 1611), .lit (.int .i32 1618), .lit (.int .u8 27), .lit (.int .u8 1)], .agg [.lit (.int .i32 1619), .lit (.int .i32 1620), .lit (.int .u8 230), .lit (.int .u8 0)], .agg [.lit (.int .i32 1621), .lit (.int .i32 1622), .lit (.int .u8 220), .lit (.int .u8 0)], .agg [.lit (.int .i32 1648), .lit (.int .i32 1648), .lit (.int .u8 35), .lit (.int .u8 0)], .agg [.lit (.int .i32 12441), .lit (.int .i32 12442), .lit (.int .u8 8), .lit (.int .u8 0)], .agg [.lit (.int .i32 64286), .lit (.int .i32 64286), .lit (.int .u8 26), .lit (.int .u8 0)], .agg [.lit (.int .i32 65056), .lit (.int .i32 65059), .lit (.int .u8 230), .lit (.int .u8 0)]]

/-- 'amanuensislaw03.ClassOf': WHATEVER THE INPUT: true; the input reads as it did. -/
def classOfSpec : ChangeSpec := { name := "classOf", fn := fun _ => fun
  | [d] => { results := [.lit (.bool true)], args := [d] }
  | _ => none }
def classOfRow : OpenClaim := { program := "ytkbiogbaaomcdaadoor", sum := "b4a61dd8573276df71f363f0d6486101279cb6596b17ee80ced62694afa9f2db", func := "amanuensis/amanuensislaw03.ClassOf", spec := "classOf", unfollowed := true, recurses := true, named := ["amanuensis/class.spans"], apart := false, laid := [("amanuensis/class.spans", laid_amanuensis_class_spans)] }
def ClassOfSaid : Prop := classOfRow.holds Tryd.pinned (OpenSpec.ofChange classOfSpec)

/-- ITS FALSE NEIGHBOUR: 'it returns false'. Refute it at one input. -/
def classOfWrong : ChangeSpec := { name := "classOf", fn := fun _ => fun
  | [d] => { results := [.lit (.bool false)], args := [d] }
  | _ => none }
def ClassOfWrongFalsely : Prop := classOfRow.holds Tryd.pinned (OpenSpec.ofChange classOfWrong)

/-- 'amanuensislaw03.ClassAll': WHATEVER THE INPUT: true; the input reads as it did. -/
def classAllSpec : ChangeSpec := { name := "classAll", fn := fun _ => fun
  | [d] => { results := [.lit (.bool true)], args := [d] }
  | _ => none }
def classAllRow : OpenClaim := { program := "ytkbiogbaaomcdaadoor", sum := "b4a61dd8573276df71f363f0d6486101279cb6596b17ee80ced62694afa9f2db", func := "amanuensis/amanuensislaw03.ClassAll", spec := "classAll", unfollowed := true, recurses := true, named := ["amanuensis/class.spans"], apart := false, laid := [("amanuensis/class.spans", laid_amanuensis_class_spans)] }
def ClassAllSaid : Prop := classAllRow.holds Tryd.pinned (OpenSpec.ofChange classAllSpec)

/-- ITS FALSE NEIGHBOUR: 'it returns false'. Refute it at one input. -/
def classAllWrong : ChangeSpec := { name := "classAll", fn := fun _ => fun
  | [d] => { results := [.lit (.bool false)], args := [d] }
  | _ => none }
def ClassAllWrongFalsely : Prop := classAllRow.holds Tryd.pinned (OpenSpec.ofChange classAllWrong)

/-- 'amanuensislaw03.ClassBounds': WHATEVER THE INPUT: true; the input reads as it did. -/
def classBoundsSpec : ChangeSpec := { name := "classBounds", fn := fun _ => fun
  | [d] => { results := [.lit (.bool true)], args := [d] }
  | _ => none }
def classBoundsRow : OpenClaim := { program := "ytkbiogbaaomcdaadoor", sum := "b4a61dd8573276df71f363f0d6486101279cb6596b17ee80ced62694afa9f2db", func := "amanuensis/amanuensislaw03.ClassBounds", spec := "classBounds", unfollowed := true, recurses := true, named := ["amanuensis/class.spans"], apart := false, laid := [("amanuensis/class.spans", laid_amanuensis_class_spans)] }
def ClassBoundsSaid : Prop := classBoundsRow.holds Tryd.pinned (OpenSpec.ofChange classBoundsSpec)

/-- ITS FALSE NEIGHBOUR: 'it returns false'. Refute it at one input. -/
def classBoundsWrong : ChangeSpec := { name := "classBounds", fn := fun _ => fun
  | [d] => { results := [.lit (.bool false)], args := [d] }
  | _ => none }
def ClassBoundsWrongFalsely : Prop := classBoundsRow.holds Tryd.pinned (OpenSpec.ofChange classBoundsWrong)

/-- 'amanuensislaw03.ClassSteps': WHATEVER THE INPUT: true; the input reads as it did. -/
def classStepsSpec : ChangeSpec := { name := "classSteps", fn := fun _ => fun
  | [d] => { results := [.lit (.bool true)], args := [d] }
  | _ => none }
def classStepsRow : OpenClaim := { program := "ytkbiogbaaomcdaadoor", sum := "b4a61dd8573276df71f363f0d6486101279cb6596b17ee80ced62694afa9f2db", func := "amanuensis/amanuensislaw03.ClassSteps", spec := "classSteps", unfollowed := true, recurses := true, named := ["amanuensis/class.spans"], apart := false, laid := [("amanuensis/class.spans", laid_amanuensis_class_spans)] }
def ClassStepsSaid : Prop := classStepsRow.holds Tryd.pinned (OpenSpec.ofChange classStepsSpec)

/-- ITS FALSE NEIGHBOUR: 'it returns false'. Refute it at one input. -/
def classStepsWrong : ChangeSpec := { name := "classSteps", fn := fun _ => fun
  | [d] => { results := [.lit (.bool false)], args := [d] }
  | _ => none }
def ClassStepsWrongFalsely : Prop := classStepsRow.holds Tryd.pinned (OpenSpec.ofChange classStepsWrong)

/- THE SECOND FORM. 'bulk': how many values and letters a reading holds, each counted each time it is reached (what is shared counts as often as it is met; a slice's spare places count too). A statement '..UptoSaid' is the law's where the arguments, and the package variables that the reading takes, are together of bulk at most 1048576: NARROWER than '..Said'. Prove '..Said' where nothing that the law and all that it calls make is longer than what came in: it says more and counts as full. Else prove '..UptoSaid'. A law counts once. -/
mutual
def uptoBulk {H : Type} : DataW H → Nat
  | .lit (.string bytes) => bytes.length + 1
  | .lit _ => 1
  | .nil => 1
  | .ptr d => uptoBulk d + 1
  | .slice elems spare => uptoBulkAll elems + uptoBulkAll spare + 1
  | .agg parts => uptoBulkAll parts + 1
  | .iface _ d => uptoBulk d + 1
  | .map entries => uptoBulkEntries entries + 1
  | .held _ => 1
def uptoBulkAll {H : Type} : List (DataW H) → Nat
  | [] => 0
  | d :: r => uptoBulk d + uptoBulkAll r
def uptoBulkEntries {H : Type} : List (Lit × DataW H) → Nat
  | [] => 0
  | x :: r => uptoBulkEntry x + uptoBulkEntries r
def uptoBulkEntry {H : Type} : Lit × DataW H → Nat
  | (.string bytes, d) => bytes.length + uptoBulk d + 1
  | (_, d) => uptoBulk d + 1
 end
def uptoSmall : (H : Type) → List (DataW H) → Bool := fun _ ds => decide (uptoBulkAll ds ≤ 1048576)
def OpenSpec.upto (s : _root_.Go.ChangeSpec) : _root_.Go.OpenSpec := { _root_.Go.OpenSpec.ofChange s with cond := some uptoSmall }

/-- 'amanuensislaw03.ClassOf', WHERE WHAT IT READS IS OF BULK AT MOST 1048576: true; the input reads as it did. -/
def classOfUptoRow : OpenClaim := { program := "ytkbiogbaaomcdaadoor", sum := "b4a61dd8573276df71f363f0d6486101279cb6596b17ee80ced62694afa9f2db", func := "amanuensis/amanuensislaw03.ClassOf", spec := "classOf", unfollowed := true, recurses := true, named := ["amanuensis/class.spans"], apart := false, laid := [("amanuensis/class.spans", laid_amanuensis_class_spans)], narrowed := true }
def ClassOfUptoSaid : Prop := classOfUptoRow.holds Tryd.pinned (OpenSpec.upto classOfSpec)

/-- 'amanuensislaw03.ClassAll', WHERE WHAT IT READS IS OF BULK AT MOST 1048576: true; the input reads as it did. -/
def classAllUptoRow : OpenClaim := { program := "ytkbiogbaaomcdaadoor", sum := "b4a61dd8573276df71f363f0d6486101279cb6596b17ee80ced62694afa9f2db", func := "amanuensis/amanuensislaw03.ClassAll", spec := "classAll", unfollowed := true, recurses := true, named := ["amanuensis/class.spans"], apart := false, laid := [("amanuensis/class.spans", laid_amanuensis_class_spans)], narrowed := true }
def ClassAllUptoSaid : Prop := classAllUptoRow.holds Tryd.pinned (OpenSpec.upto classAllSpec)

/-- 'amanuensislaw03.ClassBounds', WHERE WHAT IT READS IS OF BULK AT MOST 1048576: true; the input reads as it did. -/
def classBoundsUptoRow : OpenClaim := { program := "ytkbiogbaaomcdaadoor", sum := "b4a61dd8573276df71f363f0d6486101279cb6596b17ee80ced62694afa9f2db", func := "amanuensis/amanuensislaw03.ClassBounds", spec := "classBounds", unfollowed := true, recurses := true, named := ["amanuensis/class.spans"], apart := false, laid := [("amanuensis/class.spans", laid_amanuensis_class_spans)], narrowed := true }
def ClassBoundsUptoSaid : Prop := classBoundsUptoRow.holds Tryd.pinned (OpenSpec.upto classBoundsSpec)

/-- 'amanuensislaw03.ClassSteps', WHERE WHAT IT READS IS OF BULK AT MOST 1048576: true; the input reads as it did. -/
def classStepsUptoRow : OpenClaim := { program := "ytkbiogbaaomcdaadoor", sum := "b4a61dd8573276df71f363f0d6486101279cb6596b17ee80ced62694afa9f2db", func := "amanuensis/amanuensislaw03.ClassSteps", spec := "classSteps", unfollowed := true, recurses := true, named := ["amanuensis/class.spans"], apart := false, laid := [("amanuensis/class.spans", laid_amanuensis_class_spans)], narrowed := true }
def ClassStepsUptoSaid : Prop := classStepsUptoRow.holds Tryd.pinned (OpenSpec.upto classStepsSpec)

end Rows
end Go.Proofs.YtkbiogbaaomcdaaDoor
