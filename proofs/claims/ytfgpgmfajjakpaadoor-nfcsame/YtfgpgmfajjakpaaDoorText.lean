/- The text that stands in pairs.Split, as a letter: it is its table's lines, one behind the other. The bodies are the translation's own, the text struck out. -/
import Derived.Test.YtfgpgmfajjakpaaDoorProg
import Derived.Test.YtfgpgmfajjakpaaDoorBase
namespace Go.Proofs.YtfgpgmfajjakpaaDoor.U
open Go.RowKit
set_option linter.unusedVariables false
set_option maxRecDepth 1000000

/-- The text that the function's first call is handed. -/
noncomputable def argOf (f : Func) : ByteArray :=
  match f.body with
  | some (.seq _ (.seq (.region _ ops _) _)) =>
    match ops[1]? with
    | some o => match o.op with
      | .call c => match (c.args[0]? : Option Operand) with
        | some (Operand.const (Value.string s)) => s
        | _ => ByteArray.empty
      | _ => ByteArray.empty
    | _ => ByteArray.empty
  | _ => ByteArray.empty
noncomputable def splitsS : ByteArray := argOf Tryd.f31
/-- The places in the Go text that a body's operations bear, in their order. -/
def poss : Code → List String
  | .seq a b => poss a ++ poss b
  | .region _ ops _ => ops.toList.map (·.pos)
  | .block _ c => poss c
  | .cond _ a b => poss a ++ poss b
  | .rangeFunc _ _ a b => poss a ++ poss b
  | _ => []
def posAt (f : Func) (i : Nat) : String := match f.body with
  | some c => (poss c).getD i ""
  | none => ""
def code4 (S : ByteArray) (p : Nat → String) : Code := (Code.seq (Code.region 0 #[Oper.mk (some 1) (Op.box 21 (Operand.tmp 0)) 0 (p 0) #[] none, Oper.mk (some 2) (Op.assign (Operand.const (Value.int IntKind.i32 0))) 21 (p 1) #[] none, Oper.mk (some 3) (Op.assign (Operand.const (Value.int IntKind.i32 0))) 21 (p 2) #[Edge.mk 1 Ground.chain] none, Oper.mk (some 4) (Op.assign (Operand.const (Value.int IntKind.i64 0))) 3 (p 3) #[Edge.mk 2 Ground.chain] none] false) (Code.seq (Code.region 1 #[Oper.mk (some 8) (Op.makeFunc (Fn.func 49) #[] #[Operand.tmp 1]) 65 (p 4) #[] none, Oper.mk (some 9) (Op.call (Call.mk (Callee.value (Operand.func 38)) #[Operand.const (Value.string S), Operand.tmp 8] #[61, 65])) 60 (p 5) #[Edge.mk 0 Ground.data] none, Oper.mk (some 7) (Op.move (Operand.tmp 9)) 60 (p 6) #[Edge.mk 1 Ground.data] none, Oper.mk (some 10) (Op.extract (Operand.tmp 7) 0) 59 (p 7) #[Edge.mk 2 Ground.data] none, Oper.mk (some 11) (Op.extract (Operand.tmp 7) 1) 4 (p 8) #[Edge.mk 2 Ground.data, Edge.mk 5 (Ground.gcOnly Departure.lateStores)] none, Oper.mk (some 5) (Op.assign (Operand.tmp 10)) 59 (p 9) #[Edge.mk 3 Ground.data, Edge.mk 1 Ground.chain, Edge.mk 0 Ground.phase, Edge.mk 1 Ground.phase, Edge.mk 2 Ground.phase, Edge.mk 3 Ground.phase, Edge.mk 4 (Ground.textOnly Departure.lateStores)] none, Oper.mk (some 6) (Op.assign (Operand.tmp 11)) 4 (p 10) #[Edge.mk 4 Ground.data, Edge.mk 5 Ground.chain, Edge.mk 0 Ground.phase, Edge.mk 1 Ground.phase, Edge.mk 2 Ground.phase, Edge.mk 3 Ground.phase, Edge.mk 4 Ground.phase, Edge.mk 5 Ground.phase] none] false) (Code.seq (Code.seq (Code.region 2 #[Oper.mk (some 12) (Op.move (Operand.tmp 6)) 4 (p 11) #[] none, Oper.mk (some 13) (Op.unOp UnOp.not 4 (Operand.tmp 12)) 4 (p 12) #[Edge.mk 0 Ground.data] none] false) (Code.cond (Operand.tmp 13) (Code.seq (Code.region 3 #[Oper.mk (some 2) (Op.assign (Operand.const (Value.int IntKind.i32 0))) 21 (p 13) #[] none, Oper.mk (some 3) (Op.assign (Operand.const (Value.int IntKind.i32 0))) 21 (p 14) #[Edge.mk 0 Ground.chain, Edge.mk 0 Ground.phase] none, Oper.mk (some 4) (Op.assign (Operand.const (Value.int IntKind.i64 0))) 3 (p 15) #[Edge.mk 1 Ground.chain, Edge.mk 0 Ground.phase, Edge.mk 1 Ground.phase] none] false) Code.ret) Code.skip)) (Code.seq (Code.region 4 #[Oper.mk (some 14) (Op.move (Operand.tmp 5)) 59 (p 16) #[] none, Oper.mk (some 15) (Op.call (Call.mk (Callee.value (Operand.func 42)) #[Operand.tmp 14] #[59])) 21 (p 17) #[Edge.mk 0 Ground.data] none, Oper.mk (some 16) (Op.move (Operand.tmp 5)) 59 (p 18) #[] none, Oper.mk (some 17) (Op.call (Call.mk (Callee.value (Operand.func 43)) #[Operand.tmp 16] #[59])) 21 (p 19) #[Edge.mk 2 Ground.data, Edge.mk 1 Ground.chain] none, Oper.mk (some 18) (Op.move (Operand.tmp 5)) 59 (p 20) #[] none, Oper.mk (some 19) (Op.call (Call.mk (Callee.value (Operand.func 50)) #[Operand.tmp 18] #[59])) 3 (p 21) #[Edge.mk 4 Ground.data, Edge.mk 3 Ground.chain] none, Oper.mk (some 2) (Op.assign (Operand.tmp 15)) 21 (p 22) #[Edge.mk 1 Ground.data, Edge.mk 5 Ground.chain, Edge.mk 0 Ground.phase, Edge.mk 1 Ground.phase, Edge.mk 2 (Ground.textOnly Departure.lateStores), Edge.mk 3 (Ground.textOnly Departure.lateStoresUnsure), Edge.mk 4 (Ground.textOnly Departure.lateStores), Edge.mk 5 (Ground.textOnly Departure.lateStoresUnsure)] none, Oper.mk (some 3) (Op.assign (Operand.tmp 17)) 21 (p 23) #[Edge.mk 3 Ground.data, Edge.mk 6 Ground.chain, Edge.mk 0 Ground.phase, Edge.mk 1 Ground.phase, Edge.mk 2 Ground.phase, Edge.mk 3 Ground.phase, Edge.mk 4 (Ground.textOnly Departure.lateStores), Edge.mk 5 (Ground.textOnly Departure.lateStoresUnsure), Edge.mk 6 Ground.phase] none, Oper.mk (some 4) (Op.assign (Operand.tmp 19)) 3 (p 24) #[Edge.mk 5 Ground.data, Edge.mk 7 Ground.chain, Edge.mk 0 Ground.phase, Edge.mk 1 Ground.phase, Edge.mk 2 Ground.phase, Edge.mk 3 Ground.phase, Edge.mk 4 Ground.phase, Edge.mk 5 Ground.phase, Edge.mk 6 Ground.phase, Edge.mk 7 Ground.phase] none] false) Code.ret))))
theorem body4 : Tryd.f31.body = some (code4 splitsS (posAt Tryd.f31)) := by kernel_rfl
theorem okS : okL (sn splitsS) tabS = true := by kernel_rfl

/-- Digits of a number. -/
def D4 (S : ByteArray) (v : Int) : Prop := ∃ d : List Int, S = str d ∧ d.length = 4 ∧ (∀ c ∈ d, isD c = true) ∧ num d = v
/-- A line. -/
def Ln (L : ByteArray) (t : Row3) : Prop := L.size = 15 ∧ D4 (L.extract 1 5) t.1 ∧ D4 (L.extract 6 10) t.2.1 ∧ D4 (L.extract 11 15) t.2.2
/-- A text of lines. -/
def Txt (S : ByteArray) (rows : List Row3) : Prop := S.size = rows.length * 15 ∧ ∀ (i : Nat) (t : Row3), rows[i]? = some t → Ln (S.extract (i * 15) (i * 15 + 15)) t
theorem txt_of {S : ByteArray} {rows : List Row3} (h : okL (sn S) rows = true) : Txt S rows := by
  have hs := str_sn S
  refine ⟨?_, fun i t hi => ?_⟩
  · have := okL_len rows _ h
    rw [← hs, str_size, this]
  · have hl := okL_at rows _ h i t hi
    have he : S.extract (i * 15) (i * 15 + 15) = str (((sn S).drop (i * 15)).take 15) := by
      conv => lhs; rw [← hs]
      rw [str_extract, show i * 15 + 15 - i * 15 = 15 by omega]
    rw [he]
    generalize ((sn S).drop (i * 15)).take 15 = l at hl
    simp only [okLine, Bool.and_eq_true] at hl
    obtain ⟨⟨⟨h0, h1⟩, h2⟩, h3⟩ := hl
    have g1 := d4_true h1
    have g2 := d4_true h2
    have g3 := d4_true h3
    refine ⟨by rw [str_size]; exact eq_of_beq h0, ⟨_, by rw [str_extract], g1⟩, ⟨_, by rw [str_extract], g2⟩, ⟨_, by rw [str_extract], g3⟩⟩
theorem txtS : Txt splitsS tabS := txt_of okS
end Go.Proofs.YtfgpgmfajjakpaaDoor.U
