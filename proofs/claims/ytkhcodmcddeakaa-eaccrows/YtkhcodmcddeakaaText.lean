/- What eacc.runs answers: ten runs, each with its first code, its text and whether it is one of alternates. The texts are letters, drawn out of the translation; the body is the translation's own, the texts and the places in the Go text struck out. No condition. -/
import Derived.Test.YtkhcodmcddeakaaChecked
import Derived.Test.YtkhcodmcddeakaaBase
namespace Go.Proofs.Ytkhcodmcddeakaa.U
open Go.RowKit
set_option linter.unusedVariables false
set_option maxRecDepth 1000000

/-- The constant strings that a body's operations build into values, in their order. -/
def cst : Operand → List ByteArray
  | .const (.string s) => [s]
  | _ => []
def strOf : Op → List ByteArray
  | .build _ fs => fs.toList.flatMap fun x => cst x.2
  | _ => []
def strs : Code → List ByteArray
  | .seq a b => strs a ++ strs b
  | .region _ ops _ => ops.toList.flatMap fun o => strOf o.op
  | _ => []
noncomputable def strAt (f : Func) (i : Nat) : ByteArray := match f.body with
  | some c => (strs c).getD i ByteArray.empty
  | none => ByteArray.empty
/-- The places in the Go text that a body's operations bear, in their order. -/
def poss : Code → List String
  | .seq a b => poss a ++ poss b
  | .region _ ops _ => ops.toList.map (·.pos)
  | _ => []
noncomputable def posAt (f : Func) (i : Nat) : String := match f.body with
  | some c => (poss c).getD i ""
  | none => ""
def code11 (S : Nat → ByteArray) (p : Nat → String) : Code := (Go.Code.seq (Go.Code.region 0 #[Go.Oper.mk (some 0) (Go.Op.alloc 35) 0 (p 0) #[] none] false) (Go.Code.seq (Go.Code.region 1 #[Go.Oper.mk (some 1) (Go.Op.build 33 #[(0, Go.Operand.const (Go.Value.int Go.IntKind.i64 2171681)), (1, Go.Operand.const (Go.Value.string (S 0)))]) 33 (p 1) #[] none, Go.Oper.mk (some 2) (Go.Op.build 33 #[(0, Go.Operand.const (Go.Value.int Go.IntKind.i64 2171688)), (1, Go.Operand.const (Go.Value.string (S 1)))]) 33 (p 2) #[] none, Go.Oper.mk (some 3) (Go.Op.build 33 #[(0, Go.Operand.const (Go.Value.int Go.IntKind.i64 2175009)), (1, Go.Operand.const (Go.Value.string (S 2)))]) 33 (p 3) #[] none, Go.Oper.mk (some 4) (Go.Op.build 33 #[(0, Go.Operand.const (Go.Value.int Go.IntKind.i64 2568225)), (1, Go.Operand.const (Go.Value.string (S 3))), (2, Go.Operand.const (Go.Value.bool true))]) 33 (p 4) #[] none, Go.Oper.mk (some 5) (Go.Op.build 33 #[(0, Go.Operand.const (Go.Value.int Go.IntKind.i64 2568228)), (1, Go.Operand.const (Go.Value.string (S 4))), (2, Go.Operand.const (Go.Value.bool true))]) 33 (p 5) #[] none, Go.Oper.mk (some 6) (Go.Op.build 33 #[(0, Go.Operand.const (Go.Value.int Go.IntKind.i64 2568237)), (1, Go.Operand.const (Go.Value.string (S 5))), (2, Go.Operand.const (Go.Value.bool true))]) 33 (p 6) #[] none, Go.Oper.mk (some 7) (Go.Op.build 33 #[(0, Go.Operand.const (Go.Value.int Go.IntKind.i64 3362337)), (1, Go.Operand.const (Go.Value.string (S 6))), (2, Go.Operand.const (Go.Value.bool true))]) 33 (p 7) #[] none, Go.Oper.mk (some 8) (Go.Op.build 33 #[(0, Go.Operand.const (Go.Value.int Go.IntKind.i64 6890529)), (1, Go.Operand.const (Go.Value.string (S 7)))]) 33 (p 8) #[] none, Go.Oper.mk (some 9) (Go.Op.build 33 #[(0, Go.Operand.const (Go.Value.int Go.IntKind.i64 6890785)), (1, Go.Operand.const (Go.Value.string (S 8)))]) 33 (p 9) #[] none, Go.Oper.mk (some 10) (Go.Op.build 33 #[(0, Go.Operand.const (Go.Value.int Go.IntKind.i64 6891052)), (1, Go.Operand.const (Go.Value.string (S 9)))]) 33 (p 10) #[] none, Go.Oper.mk (some 11) (Go.Op.build 35 #[(0, Go.Operand.tmp 1), (1, Go.Operand.tmp 2), (2, Go.Operand.tmp 3), (3, Go.Operand.tmp 4), (4, Go.Operand.tmp 5), (5, Go.Operand.tmp 6), (6, Go.Operand.tmp 7), (7, Go.Operand.tmp 8), (8, Go.Operand.tmp 9), (9, Go.Operand.tmp 10)]) 35 (p 11) #[Go.Edge.mk 0 Go.Ground.data, Go.Edge.mk 1 Go.Ground.data, Go.Edge.mk 2 Go.Ground.data, Go.Edge.mk 3 Go.Ground.data, Go.Edge.mk 4 Go.Ground.data, Go.Edge.mk 5 Go.Ground.data, Go.Edge.mk 6 Go.Ground.data, Go.Edge.mk 7 Go.Ground.data, Go.Edge.mk 8 Go.Ground.data, Go.Edge.mk 9 Go.Ground.data] none, Go.Oper.mk none (Go.Op.store 35 (Go.Operand.tmp 0) (Go.Operand.tmp 11)) 0 (p 12) #[Go.Edge.mk 10 Go.Ground.data, Go.Edge.mk 0 Go.Ground.phase, Go.Edge.mk 1 Go.Ground.phase, Go.Edge.mk 2 Go.Ground.phase, Go.Edge.mk 3 Go.Ground.phase, Go.Edge.mk 4 Go.Ground.phase, Go.Edge.mk 5 Go.Ground.phase, Go.Edge.mk 6 Go.Ground.phase, Go.Edge.mk 7 Go.Ground.phase, Go.Edge.mk 8 Go.Ground.phase, Go.Edge.mk 9 Go.Ground.phase, Go.Edge.mk 10 Go.Ground.phase] none] false) Go.Code.ret))
theorem body11 : Try.f11.body = some (code11 (strAt Try.f11) (posAt Try.f11)) := by kernel_rfl
theorem str0 : (strAt Try.f11 0).data.toList = txt 0 := by kernel_rfl
theorem str1 : (strAt Try.f11 1).data.toList = txt 1 := by kernel_rfl
theorem str2 : (strAt Try.f11 2).data.toList = txt 2 := by kernel_rfl
theorem str3 : (strAt Try.f11 3).data.toList = txt 3 := by kernel_rfl
theorem str4 : (strAt Try.f11 4).data.toList = txt 4 := by kernel_rfl
theorem str5 : (strAt Try.f11 5).data.toList = txt 5 := by kernel_rfl
theorem str6 : (strAt Try.f11 6).data.toList = txt 6 := by kernel_rfl
theorem str7 : (strAt Try.f11 7).data.toList = txt 7 := by kernel_rfl
theorem str8 : (strAt Try.f11 8).data.toList = txt 8 := by kernel_rfl
theorem str9 : (strAt Try.f11 9).data.toList = txt 9 := by kernel_rfl
theorem str_is : ∀ k, k < 10 → (strAt Try.f11 k).data.toList = txt k
  | 0, _ => str0
  | 1, _ => str1
  | 2, _ => str2
  | 3, _ => str3
  | 4, _ => str4
  | 5, _ => str5
  | 6, _ => str6
  | 7, _ => str7
  | 8, _ => str8
  | 9, _ => str9
  | k + 10, h => absurd h (by omega)
theorem good {k : Nat} (hk : k < 10) : decs (strAt Try.f11 k) (strAt Try.f11 k).size 0 = chs k ∧ (strAt Try.f11 k).size < 1000 := by
  have h1 := str_is k hk
  have hm : txt k ∈ texts := by
    have hl : k < texts.length := hk
    unfold txt
    rw [List.getD_eq_getElem?_getD, List.getElem?_eq_getElem hl]
    exact List.getElem_mem hl
  have h2 := List.all_eq_true.1 texts_ok _ hm
  have h3 := List.all_eq_true.1 texts_short _ hm
  have h4 : three (txt k) = chs k := by
    have hl : k < texts.length := hk
    unfold chs
    rw [← texts_are]
    unfold txt
    rw [List.getD_eq_getElem?_getD, List.getD_eq_getElem?_getD, List.getElem?_map, List.getElem?_eq_getElem hl]
    rfl
  refine ⟨decs_of h1 h2 h4, ?_⟩
  have h5 : (strAt Try.f11 k).size = (strAt Try.f11 k).data.toList.length := (Array.length_toList (xs := (strAt Try.f11 k).data)).symm
  rw [h5, h1]
  simpa using h3
end Go.Proofs.Ytkhcodmcddeakaa.U
