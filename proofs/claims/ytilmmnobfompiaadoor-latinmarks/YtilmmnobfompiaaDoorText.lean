/- The text that stands in latin.Ansel, as a letter; its lines, their words, what each word tells: together the chapter's list. The body is the translation's own, the text struck out. -/
import Derived.Test.YtilmmnobfompiaaDoorProg
import Derived.Test.YtilmmnobfompiaaDoorBase
import Derived.Lib.Split
import Derived.Lib.SpaceU
import Derived.Shelf.Unicode.DecodeSlow
namespace Go.Proofs.YtilmmnobfompiaaDoor.U
open Go.RowKit
set_option linter.unusedVariables false
set_option maxRecDepth 1000000

/-- The text that the iterator is bound to. -/
noncomputable def argOf (f : Func) : ByteArray :=
  match f.body with
  | some (.seq _ (.seq (.seq (.region _ ops _) _) _)) =>
    match ops[0]? with
    | some o => match o.op with
      | .makeFunc _ args _ => match (args[0]? : Option Operand) with
        | some (Operand.const (Value.string s)) => s
        | _ => ByteArray.empty
      | _ => ByteArray.empty
    | _ => ByteArray.empty
  | _ => ByteArray.empty
noncomputable def textS : ByteArray := argOf Tryd.f5
/-- The places in the Go text that a body's operations bear, in their order. -/
def poss : Code → List String
  | .seq a b => poss a ++ poss b
  | .region _ ops _ => ops.toList.map (·.pos)
  | .block _ c => poss c
  | .cond _ a b => poss a ++ poss b
  | .rangeFunc _ _ a b => poss a ++ poss b
  | _ => []
def posAt (f : Func) (i : Nat) : String := match f.body with
  | some c => (poss c).getD i ""
  | none => ""
def code5 (S : ByteArray) (p : Nat → String) : Code := ((Code.region 0 #[Oper.mk (some 1) (Op.box 3 (Operand.tmp 0)) 0 (p 0) #[] none, Oper.mk (some 2) (Op.alloc 21) 0 (p 1) #[] none, Oper.mk (some 3) (Op.alloc 4) 0 (p 2) #[] none] false).seq (((Code.region 1 #[Oper.mk (some 6) (Op.makeFunc (Fn.func 9) #[Operand.const (Value.string S)] #[]) 28 (p 3) #[] none] false).seq (Code.block 0 (Code.rangeFunc (Operand.tmp 6) #[7, 8] ((Code.region 2 #[Oper.mk (some 4) (Op.assign (Operand.tmp 7)) 3 (p 4) #[] none] false).seq (Code.region 3 #[Oper.mk (some 5) (Op.assign (Operand.tmp 8)) 21 (p 5) #[] none] false)) (Code.block 1 ((Code.region 4 #[Oper.mk (some 9) (Op.move (Operand.tmp 4)) 3 (p 6) #[] none, Oper.mk (some 10) (Op.load 3 (Operand.tmp 1)) 3 (p 7) #[] none, Oper.mk (some 11) (Op.binOp BinOp.eql 3 (Operand.tmp 9) (Operand.tmp 10) 3) 4 (p 8) #[Edge.mk 0 Ground.data, Edge.mk 1 Ground.data] none] false).seq (Code.cond (Operand.tmp 11) ((Code.region 5 #[Oper.mk (some 12) (Op.move (Operand.tmp 5)) 21 (p 9) #[] none, Oper.mk none (Op.store 21 (Operand.tmp 2) (Operand.tmp 12)) 0 (p 10) #[Edge.mk 0 Ground.data, Edge.mk 0 Ground.phase] none, Oper.mk none (Op.store 4 (Operand.tmp 3) (Operand.const (Value.bool true))) 0 (p 11) #[Edge.mk 1 Ground.chain, Edge.mk 0 Ground.phase, Edge.mk 1 Ground.phase] none] false).seq Code.ret) Code.skip)))))).seq ((Code.region 6 #[Oper.mk none (Op.store 21 (Operand.tmp 2) (Operand.const (Value.int IntKind.i32 0))) 0 (p 12) #[] none, Oper.mk none (Op.store 4 (Operand.tmp 3) (Operand.const (Value.bool false))) 0 (p 13) #[Edge.mk 0 Ground.chain, Edge.mk 0 Ground.phase] none] false).seq Code.ret)))
theorem body5 : Tryd.f5.body = some (code5 textS (posAt Tryd.f5)) := by kernel_rfl

/-- The lines, and their words. -/
def lns : List (List UInt8) := [[50, 49, 32, 197, 129, 32, 195, 152, 32, 196, 144, 32, 195, 158, 32, 195, 134, 32, 197, 146, 32, 48, 50, 66, 57, 32, 48, 48, 66, 55, 32, 50, 54, 54, 68, 32, 194, 174, 32, 194, 177, 32, 198, 160, 32, 198, 175, 32, 48, 50, 66, 67, 32, 45],
  [51, 48, 32, 48, 50, 66, 66, 32, 197, 130, 32, 195, 184, 32, 196, 145, 32, 195, 190, 32, 195, 166, 32, 197, 147, 32, 48, 50, 66, 65, 32, 196, 177, 32, 194, 163, 32, 195, 176, 32, 45, 32, 198, 161, 32, 198, 176, 32, 45, 32, 45],
  [52, 48, 32, 194, 176, 32, 50, 49, 49, 51, 32, 50, 49, 49, 55, 32, 194, 169, 32, 50, 54, 54, 70, 32, 194, 191, 32, 194, 161, 32, 195, 159, 32, 226, 130, 172, 32, 45, 32, 45, 32, 45, 32, 45, 32, 45, 32, 45, 32, 45],
  [53, 48, 32, 45, 32, 45, 32, 45, 32, 45, 32, 45, 32, 45, 32, 45, 32, 45, 32, 45, 32, 45, 32, 45, 32, 45, 32, 45, 32, 45, 32, 45, 32, 45],
  [54, 48, 32, 48, 51, 48, 57, 32, 48, 51, 48, 48, 32, 48, 51, 48, 49, 32, 48, 51, 48, 50, 32, 48, 51, 48, 51, 32, 48, 51, 48, 52, 32, 48, 51, 48, 54, 32, 48, 51, 48, 55, 32, 48, 51, 48, 56, 32, 48, 51, 48, 67, 32, 48, 51, 48, 65, 32, 70, 69, 50, 48, 32, 70, 69, 50, 49, 32, 48, 51, 49, 53, 32, 48, 51, 48, 66, 32, 48, 51, 49, 48],
  [55, 48, 32, 48, 51, 50, 55, 32, 48, 51, 50, 56, 32, 48, 51, 50, 51, 32, 48, 51, 50, 52, 32, 48, 51, 50, 53, 32, 48, 51, 51, 51, 32, 48, 51, 51, 50, 32, 48, 51, 50, 54, 32, 48, 51, 49, 67, 32, 48, 51, 50, 69, 32, 70, 69, 50, 50, 32, 70, 69, 50, 51, 32, 45, 32, 45, 32, 48, 51, 49, 51]]
def wds : List (List (List UInt8)) := [[[50, 49], [197, 129], [195, 152], [196, 144], [195, 158], [195, 134], [197, 146], [48, 50, 66, 57], [48, 48, 66, 55], [50, 54, 54, 68], [194, 174], [194, 177], [198, 160], [198, 175], [48, 50, 66, 67], [45]],
  [[51, 48], [48, 50, 66, 66], [197, 130], [195, 184], [196, 145], [195, 190], [195, 166], [197, 147], [48, 50, 66, 65], [196, 177], [194, 163], [195, 176], [45], [198, 161], [198, 176], [45], [45]],
  [[52, 48], [194, 176], [50, 49, 49, 51], [50, 49, 49, 55], [194, 169], [50, 54, 54, 70], [194, 191], [194, 161], [195, 159], [226, 130, 172], [45], [45], [45], [45], [45], [45], [45]],
  [[53, 48], [45], [45], [45], [45], [45], [45], [45], [45], [45], [45], [45], [45], [45], [45], [45], [45]],
  [[54, 48], [48, 51, 48, 57], [48, 51, 48, 48], [48, 51, 48, 49], [48, 51, 48, 50], [48, 51, 48, 51], [48, 51, 48, 52], [48, 51, 48, 54], [48, 51, 48, 55], [48, 51, 48, 56], [48, 51, 48, 67], [48, 51, 48, 65], [70, 69, 50, 48], [70, 69, 50, 49], [48, 51, 49, 53], [48, 51, 48, 66], [48, 51, 49, 48]],
  [[55, 48], [48, 51, 50, 55], [48, 51, 50, 56], [48, 51, 50, 51], [48, 51, 50, 52], [48, 51, 50, 53], [48, 51, 51, 51], [48, 51, 51, 50], [48, 51, 50, 54], [48, 51, 49, 67], [48, 51, 50, 69], [70, 69, 50, 50], [70, 69, 50, 51], [45], [45], [48, 51, 49, 51]]]
def trimL : List UInt8 := [50, 49, 32, 197, 129, 32, 195, 152, 32, 196, 144, 32, 195, 158, 32, 195, 134, 32, 197, 146, 32, 48, 50, 66, 57, 32, 48, 48, 66, 55, 32, 50, 54, 54, 68, 32, 194, 174, 32, 194, 177, 32, 198, 160, 32, 198, 175, 32, 48, 50, 66, 67, 32, 45, 10, 51, 48, 32, 48, 50, 66, 66, 32, 197, 130, 32, 195, 184, 32, 196, 145, 32, 195, 190, 32, 195, 166, 32, 197, 147, 32, 48, 50, 66, 65, 32, 196, 177, 32, 194, 163, 32, 195, 176, 32, 45, 32, 198, 161, 32, 198, 176, 32, 45, 32, 45, 10, 52, 48, 32, 194, 176, 32, 50, 49, 49, 51, 32, 50, 49, 49, 55, 32, 194, 169, 32, 50, 54, 54, 70, 32, 194, 191, 32, 194, 161, 32, 195, 159, 32, 226, 130, 172, 32, 45, 32, 45, 32, 45, 32, 45, 32, 45, 32, 45, 32, 45, 10, 53, 48, 32, 45, 32, 45, 32, 45, 32, 45, 32, 45, 32, 45, 32, 45, 32, 45, 32, 45, 32, 45, 32, 45, 32, 45, 32, 45, 32, 45, 32, 45, 32, 45, 10, 54, 48, 32, 48, 51, 48, 57, 32, 48, 51, 48, 48, 32, 48, 51, 48, 49, 32, 48, 51, 48, 50, 32, 48, 51, 48, 51, 32, 48, 51, 48, 52, 32, 48, 51, 48, 54, 32, 48, 51, 48, 55, 32, 48, 51, 48, 56, 32, 48, 51, 48, 67, 32, 48, 51, 48, 65, 32, 70, 69, 50, 48, 32, 70, 69, 50, 49, 32, 48, 51, 49, 53, 32, 48, 51, 48, 66, 32, 48, 51, 49, 48, 10, 55, 48, 32, 48, 51, 50, 55, 32, 48, 51, 50, 56, 32, 48, 51, 50, 51, 32, 48, 51, 50, 52, 32, 48, 51, 50, 53, 32, 48, 51, 51, 51, 32, 48, 51, 51, 50, 32, 48, 51, 50, 54, 32, 48, 51, 49, 67, 32, 48, 51, 50, 69, 32, 70, 69, 50, 50, 32, 70, 69, 50, 51, 32, 45, 32, 45, 32, 48, 51, 49, 51]
def textL : List UInt8 := 10 :: (trimL ++ [10])
theorem text_is : textS.data.toList = textL := by kernel_rfl
theorem trim_is : Lib.trimSpaceD textL = trimL := by
  have h0 : Lib.trimLeftD textL.length textL = trimL ++ [10] := by kernel_rfl
  have h1 : Lib.trimRightD textL.length (trimL ++ [10]) = trimL := by kernel_rfl
  unfold Lib.trimSpaceD
  rw [h0, h1]
def nl : ByteArray := ⟨#[10]⟩
def trimS : ByteArray := ⟨trimL.toArray⟩
theorem size_of (l : List UInt8) : (⟨l.toArray⟩ : ByteArray).size = l.length := by simp [ByteArray.size]
theorem text_len : textS.size < 1000 := by
  have h : textS.size = textL.length := by rw [← text_is]; exact (Array.length_toList (xs := textS.data)).symm
  rw [h]
  decide +kernel
theorem trim_len : trimS.size < 1000 := by
  have h : trimS.size = trimL.length := size_of trimL
  rw [h]
  decide +kernel
theorem count_is : Lib.countB trimS nl = 5 := by
  have h : Lib.count trimL [10] = 5 := by kernel_rfl
  exact h
def linesS : List ByteArray := lns.map fun l => ⟨l.toArray⟩
theorem lines_is : Lib.splitB nl 0 5 trimS = linesS := by
  have h : Lib.splitK [10] 0 5 trimL = lns := by kernel_rfl
  have h1 := Lib.splitB_data nl 0 5 trimS
  have h2 : (Lib.splitB nl 0 5 trimS).map (·.data.toList) = lns := h1.trans h
  have h3 := congrArg (List.map fun l : List UInt8 => (⟨l.toArray⟩ : ByteArray)) h2
  rw [List.map_map] at h3
  have h4 : ((fun l : List UInt8 => (⟨l.toArray⟩ : ByteArray)) ∘ fun x : ByteArray => x.data.toList) = id := by
    funext x
    rfl
  rw [h4, List.map_id] at h3
  exact h3
theorem words_is : lns.map Lib.fieldsD = wds := by kernel_rfl

def nm (x : List UInt8) : List Int := x.map fun c => Int.ofNat c.toNat
theorem str_nm (x : List UInt8) : str (nm x) = ⟨x.toArray⟩ := str_sn ⟨x.toArray⟩
/-- What a word tells. -/
def chr (x : List UInt8) : Int := if x.length = 4 then num (nm x) else ((Lib.decodeGo ⟨x.toArray⟩).1 : Int)
/-- What the words behind a line's first one tell, from the number n on. -/
def outW (n : Int) : List (List UInt8) → List (Int × Int)
  | [] => []
  | x :: xs => (if x = [45] then [] else [(n, chr x)]) ++ outW (n + 1) xs
def outL : List (List UInt8) → List (Int × Int)
  | [] => []
  | h :: t => outW (num (nm h)) t
theorem out_all : wds.flatMap outL = tabA := by kernel_rfl
def okW (x : List UInt8) : Bool := decide (x.length ≤ 4) && (decide (x.length ≠ 4) || ((nm x).all isD && decide (num (nm x) < 65536)))
def okL : List (List UInt8) → Bool
  | [] => false
  | h :: t => (nm h).all isD && decide (1 ≤ h.length) && decide (h.length ≤ 4) && decide (num (nm h) < 65536) && t.all okW && decide (t.length < 100) && decide (1 ≤ t.length)
theorem ok_all : wds.all okL = true := by kernel_rfl
theorem lns_small : lns.all (fun l => decide (l.length < 1000)) = true := by kernel_rfl
end Go.Proofs.YtilmmnobfompiaaDoor.U
