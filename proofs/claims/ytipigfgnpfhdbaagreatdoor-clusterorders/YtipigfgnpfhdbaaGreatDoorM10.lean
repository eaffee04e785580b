/- What cluster.countMarks answers: as nfd.countMarks, by the same walk. The text that stands in pairs.Split, as a letter: it is its table's lines, one behind the other. The bodies are the translation's own, the text struck out. What a line's own methods, the table's own methods and package cmp's functions answer. What the two functions that are handed over answer of a line: on which side what is sought stands. What sort.Find and the table's own find answer. What pairs.Split answers. What hangul.Split and the reference's Parts answer: a new list of a syllable's parts. What hangul.Split and the table's parts answer: a list of its own, of what a character is split into, once. -/
import Derived.Test.YtipigfgnpfhdbaaGreatDoorM8
import Derived.Test.YtipigfgnpfhdbaaGreatDoorProg
import Derived.Test.YtipigfgnpfhdbaaGreatDoorM2
import Derived.Deep.RegionWith
import Derived.Shelf.Abstract
import Derived.Test.YtipigfgnpfhdbaaGreatDoorChecked
namespace Go.Proofs.YtipigfgnpfhdbaaGreatDoor.K
open Go.RowKit U F
set_option linter.unusedVariables false

def CountPost (w : World) (l : List Int) (e : Ending) (w' : World) : Prop :=
  ∃ k : Nat, e = .returned (.int .i64 k) ∧ k ≤ l.length ∧ Hid ((∀ i x, i < k → l[i]? = some x → 0 < cls x) ∧ ∀ x, l[k]? = some x → cls x = 0) ∧ Gr w w'
def CountRel (w : World) (l : List Int) (i : Value) (w' : World) : Prop :=
  ∃ k : Nat, i = .int .i64 k ∧ k ≤ l.length ∧ Hid (∀ i x, i < k → l[i]? = some x → 0 < cls x) ∧ Gr w w'

set_option maxHeartbeats 2000000 in
theorem count_marks (A : Option Addr) (n c B : Nat) (l : List Int) (w : World) (hr : Rd w B .i32 A l) (hl : l.length = n) (hn : n ≤ 1099511627776) (hS : Sp w) :
    Calls Tryz.prog 25 #[.slice A n c] w (CountPost w l) := by
  have HR := Lib.hid hr
  have HL := Lib.hid hl
  have HS := Lib.hid hS
  clear hr hl hS
  go_enter Tryz.func25, Tryz.ntmps25
  go_wp2
  go_loopw [3] (fun i wr => CountRel w l i wr) (fun i _ => n - (intOf i).toNat)
  case atStart => exact ⟨0, rfl, Nat.zero_le _, Lib.hid fun i x h => by omega, Gr.refl _⟩
  case round =>
    obtain ⟨k, rfl, hk, HK, hg⟩ := hrel
    rw [HL.out] at hk
    by_cases hlt : k < n
    · obtain ⟨x, hx⟩ : ∃ x, l[k]? = some x := ⟨l[k]'(by rw [HL.out]; exact hlt), by simp⟩
      obtain ⟨g, off, rfl, _, hc⟩ := (HR.out.bel hg.bel) k x hx
      have q0 : (0 : Int) ≤ (k : Int) := by omega
      have q1 : (k : Int) < (n : Int) := by omega
      have HX := Lib.hid hx
      obtain ⟨b, hb⟩ : ∃ b, decide (0 < cls x) = b := ⟨_, rfl⟩
      have HM := Lib.hid (mark_is x b wr (HS.out.bel hg) hb)
      have HB := Lib.hid hb
      clear hx hb
      cases b with
      | true =>
        go_wp2_with (go_at_call 44; (with_reducible refine HM.out.mono ?_); rintro e w1 ⟨rfl, h1⟩)
        go_roundw
        case rel =>
          refine ⟨k + 1, by go_num, by rw [HL.out]; omega, Lib.hid fun i y hi hy => ?_, hg.trans h1⟩
          rcases Nat.lt_or_eq_of_le (Nat.le_of_lt_succ hi) with h | rfl
          · exact HK.out i y h hy
          · obtain rfl := Option.some.inj (HX.out.symm.trans hy)
            exact of_decide_eq_true HB.out
        case measure => simp [intOf]; omega
      | false =>
        go_wp2_with (go_at_call 44; (with_reducible refine HM.out.mono ?_); rintro e w1 ⟨rfl, h1⟩)
        go_ret
        refine ⟨k, rfl, by rw [HL.out]; omega, Lib.hid ⟨HK.out, fun y hy => ?_⟩, hg.trans h1⟩
        obtain rfl := Option.some.inj (HX.out.symm.trans hy)
        have h2 := of_decide_eq_false HB.out
        have h3 := cls_nn x
        omega
    · obtain rfl : k = n := by omega
      have q1 : ¬ (k : Int) < (k : Int) := by omega
      go_wp2
      go_ret
      refine ⟨k, rfl, by rw [HL.out]; omega, Lib.hid ⟨HK.out, fun y hy => ?_⟩, hg⟩
      have := (List.getElem?_eq_some_iff.1 hy).1
      rw [HL.out] at this
      omega

end Go.Proofs.YtipigfgnpfhdbaaGreatDoor.K
namespace Go.Proofs.YtipigfgnpfhdbaaGreatDoor.F
open Go.RowKit U
set_option linter.unusedVariables false
set_option maxRecDepth 1000000

/-- The text that the function's first call is handed. -/
noncomputable def argOf (f : Func) : ByteArray :=
  match f.body with
  | some (.seq _ (.seq (.region _ ops _) _)) =>
    match ops[1]? with
    | some o => match o.op with
      | .call c => match (c.args[0]? : Option Operand) with
        | some (Operand.const (Value.string s)) => s
        | _ => ByteArray.empty
      | _ => ByteArray.empty
    | _ => ByteArray.empty
  | _ => ByteArray.empty
noncomputable def splitsS : ByteArray := argOf Tryz.f125
/-- The places in the Go text that a body's operations bear, in their order. -/
def poss : Code → List String
  | .seq a b => poss a ++ poss b
  | .region _ ops _ => ops.toList.map (·.pos)
  | .block _ c => poss c
  | .cond _ a b => poss a ++ poss b
  | .rangeFunc _ _ a b => poss a ++ poss b
  | _ => []
def posAt (f : Func) (i : Nat) : String := match f.body with
  | some c => (poss c).getD i ""
  | none => ""
def code4 (S : ByteArray) (p : Nat → String) : Code := (Code.seq (Code.region 0 #[Oper.mk (some 1) (Op.box 21 (Operand.tmp 0)) 0 (p 0) #[] none, Oper.mk (some 2) (Op.assign (Operand.const (Value.int IntKind.i32 0))) 21 (p 1) #[] none, Oper.mk (some 3) (Op.assign (Operand.const (Value.int IntKind.i32 0))) 21 (p 2) #[Edge.mk 1 Ground.chain] none, Oper.mk (some 4) (Op.assign (Operand.const (Value.int IntKind.i64 0))) 3 (p 3) #[Edge.mk 2 Ground.chain] none] false) (Code.seq (Code.region 1 #[Oper.mk (some 8) (Op.makeFunc (Fn.func 141) #[] #[Operand.tmp 1]) 172 (p 4) #[] none, Oper.mk (some 9) (Op.call (Call.mk (Callee.value (Operand.func 140)) #[Operand.const (Value.string S), Operand.tmp 8] #[169, 172])) 168 (p 5) #[Edge.mk 0 Ground.data] none, Oper.mk (some 7) (Op.move (Operand.tmp 9)) 168 (p 6) #[Edge.mk 1 Ground.data] none, Oper.mk (some 10) (Op.extract (Operand.tmp 7) 0) 167 (p 7) #[Edge.mk 2 Ground.data] none, Oper.mk (some 11) (Op.extract (Operand.tmp 7) 1) 4 (p 8) #[Edge.mk 2 Ground.data, Edge.mk 5 (Ground.gcOnly Departure.lateStores)] none, Oper.mk (some 5) (Op.assign (Operand.tmp 10)) 167 (p 9) #[Edge.mk 3 Ground.data, Edge.mk 1 Ground.chain, Edge.mk 0 Ground.phase, Edge.mk 1 Ground.phase, Edge.mk 2 Ground.phase, Edge.mk 3 Ground.phase, Edge.mk 4 (Ground.textOnly Departure.lateStores)] none, Oper.mk (some 6) (Op.assign (Operand.tmp 11)) 4 (p 10) #[Edge.mk 4 Ground.data, Edge.mk 5 Ground.chain, Edge.mk 0 Ground.phase, Edge.mk 1 Ground.phase, Edge.mk 2 Ground.phase, Edge.mk 3 Ground.phase, Edge.mk 4 Ground.phase, Edge.mk 5 Ground.phase] none] false) (Code.seq (Code.seq (Code.region 2 #[Oper.mk (some 12) (Op.move (Operand.tmp 6)) 4 (p 11) #[] none, Oper.mk (some 13) (Op.unOp UnOp.not 4 (Operand.tmp 12)) 4 (p 12) #[Edge.mk 0 Ground.data] none] false) (Code.cond (Operand.tmp 13) (Code.seq (Code.region 3 #[Oper.mk (some 2) (Op.assign (Operand.const (Value.int IntKind.i32 0))) 21 (p 13) #[] none, Oper.mk (some 3) (Op.assign (Operand.const (Value.int IntKind.i32 0))) 21 (p 14) #[Edge.mk 0 Ground.chain, Edge.mk 0 Ground.phase] none, Oper.mk (some 4) (Op.assign (Operand.const (Value.int IntKind.i64 0))) 3 (p 15) #[Edge.mk 1 Ground.chain, Edge.mk 0 Ground.phase, Edge.mk 1 Ground.phase] none] false) Code.ret) Code.skip)) (Code.seq (Code.region 4 #[Oper.mk (some 14) (Op.move (Operand.tmp 5)) 167 (p 16) #[] none, Oper.mk (some 15) (Op.call (Call.mk (Callee.value (Operand.func 144)) #[Operand.tmp 14] #[167])) 21 (p 17) #[Edge.mk 0 Ground.data] none, Oper.mk (some 16) (Op.move (Operand.tmp 5)) 167 (p 18) #[] none, Oper.mk (some 17) (Op.call (Call.mk (Callee.value (Operand.func 145)) #[Operand.tmp 16] #[167])) 21 (p 19) #[Edge.mk 2 Ground.data, Edge.mk 1 Ground.chain] none, Oper.mk (some 18) (Op.move (Operand.tmp 5)) 167 (p 20) #[] none, Oper.mk (some 19) (Op.call (Call.mk (Callee.value (Operand.func 146)) #[Operand.tmp 18] #[167])) 3 (p 21) #[Edge.mk 4 Ground.data, Edge.mk 3 Ground.chain] none, Oper.mk (some 2) (Op.assign (Operand.tmp 15)) 21 (p 22) #[Edge.mk 1 Ground.data, Edge.mk 5 Ground.chain, Edge.mk 0 Ground.phase, Edge.mk 1 Ground.phase, Edge.mk 2 (Ground.textOnly Departure.lateStores), Edge.mk 3 (Ground.textOnly Departure.lateStoresUnsure), Edge.mk 4 (Ground.textOnly Departure.lateStores), Edge.mk 5 (Ground.textOnly Departure.lateStoresUnsure)] none, Oper.mk (some 3) (Op.assign (Operand.tmp 17)) 21 (p 23) #[Edge.mk 3 Ground.data, Edge.mk 6 Ground.chain, Edge.mk 0 Ground.phase, Edge.mk 1 Ground.phase, Edge.mk 2 Ground.phase, Edge.mk 3 Ground.phase, Edge.mk 4 (Ground.textOnly Departure.lateStores), Edge.mk 5 (Ground.textOnly Departure.lateStoresUnsure), Edge.mk 6 Ground.phase] none, Oper.mk (some 4) (Op.assign (Operand.tmp 19)) 3 (p 24) #[Edge.mk 5 Ground.data, Edge.mk 7 Ground.chain, Edge.mk 0 Ground.phase, Edge.mk 1 Ground.phase, Edge.mk 2 Ground.phase, Edge.mk 3 Ground.phase, Edge.mk 4 Ground.phase, Edge.mk 5 Ground.phase, Edge.mk 6 Ground.phase, Edge.mk 7 Ground.phase] none] false) Code.ret))))
theorem body4 : Tryz.f125.body = some (code4 splitsS (posAt Tryz.f125)) := by kernel_rfl
theorem okS : okL (sn splitsS) tabS = true := by kernel_rfl

/-- Digits of a number. -/
def D4 (S : ByteArray) (v : Int) : Prop := ∃ d : List Int, S = str d ∧ d.length = 4 ∧ (∀ c ∈ d, isD c = true) ∧ num d = v
/-- A line. -/
def Ln (L : ByteArray) (t : Row3) : Prop := L.size = 15 ∧ D4 (L.extract 1 5) t.1 ∧ D4 (L.extract 6 10) t.2.1 ∧ D4 (L.extract 11 15) t.2.2
/-- A text of lines. -/
def Txt (S : ByteArray) (rows : List Row3) : Prop := S.size = rows.length * 15 ∧ ∀ (i : Nat) (t : Row3), rows[i]? = some t → Ln (S.extract (i * 15) (i * 15 + 15)) t
theorem txt_of {S : ByteArray} {rows : List Row3} (h : okL (sn S) rows = true) : Txt S rows := by
  have hs := str_sn S
  refine ⟨?_, fun i t hi => ?_⟩
  · have := okL_len rows _ h
    rw [← hs, str_size, this]
  · have hl := okL_at rows _ h i t hi
    have he : S.extract (i * 15) (i * 15 + 15) = str (((sn S).drop (i * 15)).take 15) := by
      conv => lhs; rw [← hs]
      rw [str_extract, show i * 15 + 15 - i * 15 = 15 by omega]
    rw [he]
    generalize ((sn S).drop (i * 15)).take 15 = l at hl
    simp only [okLine, Bool.and_eq_true] at hl
    obtain ⟨⟨⟨h0, h1⟩, h2⟩, h3⟩ := hl
    have g1 := d4_true h1
    have g2 := d4_true h2
    have g3 := d4_true h3
    refine ⟨by rw [str_size]; exact eq_of_beq h0, ⟨_, by rw [str_extract], g1⟩, ⟨_, by rw [str_extract], g2⟩, ⟨_, by rw [str_extract], g3⟩⟩
theorem txtS : Txt splitsS tabS := txt_of okS
end Go.Proofs.YtipigfgnpfhdbaaGreatDoor.F
namespace Go.Proofs.YtipigfgnpfhdbaaGreatDoor.F
open Go.RowKit U
theorem number_is (S : ByteArray) (v : Int) (w : World) (h : ∃ d : List Int, S = str d ∧ d.length = 4 ∧ (∀ c ∈ d, isD c = true) ∧ num d = v) (h16 : 0 ≤ v ∧ v < 65536) :
    Calls Tryz.prog 162 #[.string S] w fun e w' => e = .returned (.int .i32 v) ∧ Bel w w' := by
  obtain ⟨d, rfl, hd, hD, rfl⟩ := h
  have HP := Lib.hid (fun w => U.parseInt_any d 4 w hD hd (by omega) (by omega))
  have en : U.num d = num d := rfl
  rw [en] at HP
  generalize str d = S at HP ⊢
  generalize num d = v at HP h16 ⊢
  clear hd hD
  obtain ⟨v0, v1⟩ := h16
  go_enter Tryz.func162, Tryz.ntmps162
  go_wp2_with (go_at_call 154; (with_reducible refine (HP.out _).mono ?_); rintro e w' ⟨rfl, hb⟩)
  go_ret
  exact ⟨by first | rfl | exact ret_int (by omega), hb⟩
set_option linter.unusedVariables false

theorem whole_is (L : ByteArray) (t : Row3) (w : World) (h : Ln L t) (h16 : in16 t = true) : Calls Tryz.prog 143 #[.string L] w (RuneIs w t.1) := by
  obtain ⟨hs, h1, _, _⟩ := h
  have g := in16_true.1 h16
  have HP := Lib.hid (fun w => number_is (L.extract 1 5) t.1 w h1 ⟨g.1, g.2.1⟩)
  generalize t.1 = v at HP ⊢
  have q : (5 : Int) ≤ (L.size : Int) := by omega
  clear h1 g h16 hs
  go_enter Tryz.func143, Tryz.ntmps143
  go_wp2_with (go_at_call 162; (with_reducible refine (HP.out _).mono ?_); rintro e w' ⟨rfl, hb⟩)
  go_ret
  exact ⟨rfl, hb⟩
theorem first_is (L : ByteArray) (t : Row3) (w : World) (h : Ln L t) (h16 : in16 t = true) : Calls Tryz.prog 144 #[.string L] w (RuneIs w t.2.1) := by
  obtain ⟨hs, _, h1, _⟩ := h
  have g := in16_true.1 h16
  have HP := Lib.hid (fun w => number_is (L.extract 6 10) t.2.1 w h1 ⟨g.2.2.1, g.2.2.2.1⟩)
  generalize t.2.1 = v at HP ⊢
  have q : (10 : Int) ≤ (L.size : Int) := by omega
  clear h1 g h16 hs
  go_enter Tryz.func144, Tryz.ntmps144
  go_wp2_with (go_at_call 162; (with_reducible refine (HP.out _).mono ?_); rintro e w' ⟨rfl, hb⟩)
  go_ret
  exact ⟨rfl, hb⟩
theorem second_is (L : ByteArray) (t : Row3) (w : World) (h : Ln L t) (h16 : in16 t = true) : Calls Tryz.prog 145 #[.string L] w (RuneIs w t.2.2) := by
  obtain ⟨hs, _, _, h1⟩ := h
  have g := in16_true.1 h16
  have HP := Lib.hid (fun w => number_is (L.extract 11 15) t.2.2 w h1 ⟨g.2.2.2.2.1, g.2.2.2.2.2⟩)
  generalize t.2.2 = v at HP ⊢
  have q : (15 : Int) ≤ (L.size : Int) := by omega
  clear h1 g h16 hs
  go_enter Tryz.func145, Tryz.ntmps145
  go_wp2_with (go_at_call 162; (with_reducible refine (HP.out _).mono ?_); rintro e w' ⟨rfl, hb⟩)
  go_ret
  exact ⟨rfl, hb⟩
theorem parts_is (L : ByteArray) (t : Row3) (n : Int) (w : World) (h : Ln L t) (h16 : in16 t = true) (hn : n = if t.2.2 = 0 then 1 else 2) : Calls Tryz.prog 146 #[.string L] w (IntIs w n) := by
  have HP := Lib.hid (second_is L t w h h16)
  generalize t.2.2 = v at HP hn
  clear h16 h
  by_cases hv : v = 0
  · subst hv
    rw [if_pos rfl] at hn
    subst hn
    go_enter Tryz.func146, Tryz.ntmps146
    go_wp2_with (go_at_call 145; (with_reducible refine HP.out.mono ?_); rintro e w' ⟨rfl, hb⟩)
    go_ret
    exact ⟨rfl, hb⟩
  · rw [if_neg hv] at hn
    subst hn
    have q : (v == 0) = false := by simpa using hv
    go_enter Tryz.func146, Tryz.ntmps146
    go_wp2_with (go_at_call 145; (with_reducible refine HP.out.mono ?_); rintro e w' ⟨rfl, hb⟩)
    go_ret
    exact ⟨rfl, hb⟩

/-- Which is greater. -/
def sgn (x y : Int) : Int := if x < y then -1 else if y < x then 1 else 0
theorem isnan_is (x : Int) (w : World) : Calls Tryz.prog 116 #[.int .i32 x] w fun e w' => e = .returned (.bool false) ∧ w = w' := by
  go_enter Tryz.func116, Tryz.ntmps116
  go_wp2
  go_ret
  exact ⟨by first | rfl | (refine ret_bool ?_; simp), rfl⟩
theorem compare_is (x y c : Int) (w : World) (hc : sgn x y = c) : Calls Tryz.prog 142 #[.int .i32 x, .int .i32 y] w fun e w' => e = .returned (.int .i64 c) ∧ w = w' := by
  unfold sgn at hc
  rcases Int.lt_trichotomy x y with h | rfl | h
  · rw [if_pos h] at hc
    subst hc
    go_enter Tryz.func142, Tryz.ntmps142
    go_wp2_with (go_at_call 116; refine (isnan_is _ _).mono ?_; rintro e w' ⟨rfl, rfl⟩)
    go_ret
    exact ⟨rfl, rfl⟩
  · rw [if_neg (by omega), if_neg (by omega)] at hc
    subst hc
    go_enter Tryz.func142, Tryz.ntmps142
    go_wp2_with (go_at_call 116; refine (isnan_is _ _).mono ?_; rintro e w' ⟨rfl, rfl⟩)
    go_ret
    exact ⟨rfl, rfl⟩
  · rw [if_neg (by omega), if_pos h] at hc
    subst hc
    go_enter Tryz.func142, Tryz.ntmps142
    go_wp2_with (go_at_call 116; refine (isnan_is _ _).mono ?_; rintro e w' ⟨rfl, rfl⟩)
    go_ret
    exact ⟨rfl, rfl⟩

theorem at_is (S : ByteArray) (n i : Nat) (w : World) (hS : S.size = n * 15) (hi : i < n) (hn : n < 1000) :
    Calls Tryz.prog 161 #[.string S, .int .i64 i] w fun e w' => e = .returned (.string (S.extract (i * 15) (i * 15 + 15))) ∧ w = w' := by
  have q0 : (0 : Int) ≤ (i : Int) * 15 := by omega
  have q1 : (i : Int) * 15 ≤ ((i : Int) + 1) * 15 := by omega
  have q2 : ((i : Int) + 1) * 15 ≤ (S.size : Int) := by omega
  have q3 : (i : Int) < 1000 := by omega
  have hsl : ∀ wx : World, (Instr.slice 169 (.string S) (some (.int .i64 ((i : Int) * 15))) (some (.int .i64 (((i : Int) + 1) * 15))) none).run Tryz.prog wx = .ok (.string (S.extract (i * 15) (i * 15 + 15))) wx := fun wx => by
    rw [run_slice_string wx 169 S .i64 .i64 _ _ Tryz.underlying169 q0 q1 q2]
    congr 3 <;> omega
  clear hS q0 q1 q2
  go_enter Tryz.func161, Tryz.ntmps161
  go_wp2
  go_ret
  exact ⟨rfl, rfl⟩
theorem count_is (S : ByteArray) (n : Nat) (w : World) (hS : S.size = n * 15) (hn : n < 1000) :
    Calls Tryz.prog 159 #[.string S] w fun e w' => e = .returned (.int .i64 n) ∧ w = w' := by
  have q0 : (S.size : Int).tdiv 15 = (n : Int) := by rw [Int.tdiv_eq_ediv_of_nonneg (by omega)]; omega
  have q1 : (S.size : Int) < 15000 := by omega
  go_enter Tryz.func159, Tryz.ntmps159
  go_wp2
  go_ret
  exact ⟨by first | rfl | exact ret_int (by first | exact q0 | omega), rfl⟩
end Go.Proofs.YtipigfgnpfhdbaaGreatDoor.F
namespace Go.Proofs.YtipigfgnpfhdbaaGreatDoor.F
open Go.RowKit U
set_option linter.unusedVariables false
attribute [local go_sem ↓] Go.wp_at_zero Go.wp_at_succ

set_option maxHeartbeats 2000000 in
theorem sideS_is (r c : Int) (b : Nat) (L : ByteArray) (t : Row3) (w : World) (h : Ln L t) (h16 : in16 t = true) (hb : w.cell? ⟨b, 0, none⟩ = some (.int .i32 r)) (hc : sgn r t.1 = c) :
    Calls Tryz.prog 141 #[.string L, .pointer (some ⟨b, 0, none⟩)] w (IntIs w c) := by
  have HW := Lib.hid (fun w => whole_is L t w h h16)
  generalize t.1 = x at HW hc
  have HC := Lib.hid (fun w => compare_is r x c w hc)
  have HWW : Hid (∀ w' : World, w'.cell? ⟨b, 0, none⟩ = some (.int .i32 r) ∧ Bel w w' → Calls Tryz.prog 143 #[.string L] w' fun e w'' => e = .returned (.int .i32 x) ∧ (w''.cell? ⟨b, 0, none⟩ = some (.int .i32 r) ∧ Bel w w'')) := Lib.hid fun w' hc =>
    (HW.out w').mono fun e w'' he => ⟨he.1, cell_bel hc.1 he.2, hc.2.trans he.2⟩
  clear h h16 hc
  have hb0 : Bel w w := Bel.refl w
  go_enter Tryz.func141, Tryz.ntmps141
  go_wp2
  go_region_held3 (fun w' => w'.cell? ⟨b, 0, none⟩ = some (.int .i32 r) ∧ Bel w w') (first | assumption | exact ⟨hb, hb0.drew⟩)
    (first | (go_at_call 143; refine (HWW.out _ (by assumption)).mono ?_; rintro e w1 ⟨rfl, hs1⟩) | (go_at_call 142; refine (HC.out _).mono ?_; rintro e w2 ⟨rfl, rfl⟩))
  all_goals go_wp2
  all_goals go_ret
  all_goals exact ⟨rfl, hs1.2⟩

end Go.Proofs.YtipigfgnpfhdbaaGreatDoor.F
namespace Go.Proofs.YtipigfgnpfhdbaaGreatDoor.F
open Go.RowKit U
set_option linter.unusedVariables false
attribute [local go_sem ↓] Go.wp_at_zero Go.wp_at_succ

theorem sgn_pos {k x : Int} : 0 < sgn k x ↔ x < k := by
  unfold sgn
  by_cases h1 : k < x
  · rw [if_pos h1]; omega
  · rw [if_neg h1]
    by_cases h2 : x < k
    · rw [if_pos h2]; omega
    · rw [if_neg h2]; omega
theorem sgn_zero {k x : Int} : sgn k x = 0 ↔ x = k := by
  unfold sgn
  by_cases h1 : k < x
  · rw [if_pos h1]; omega
  · rw [if_neg h1]
    by_cases h2 : x < k
    · rw [if_pos h2]; omega
    · rw [if_neg h2]; omega

/-! sort.Find, of a test that only draws and makes. -/
def SFPost (w : World) (n : Nat) (p : Nat → Int) (e : Ending) (w' : World) : Prop :=
  ∃ (i : Nat) (f : Bool), e = .returned (.tuple #[.int .i64 i, .bool f]) ∧ i ≤ n ∧ Hid (((∀ t, t < i → 0 < p t) ∧ ∀ t, i ≤ t → t < n → p t ≤ 0) ∧ (f = true ↔ i < n ∧ p i = 0)) ∧ Bel w w'
def SFRel (w : World) (n : Nat) (p : Nat → Int) (lo hi : Value) (w' : World) : Prop :=
  ∃ a b : Nat, lo = .int .i64 a ∧ hi = .int .i64 b ∧ a ≤ b ∧ b ≤ n ∧ Hid ((∀ t, t < a → 0 < p t) ∧ ∀ t, b ≤ t → t < n → p t ≤ 0) ∧ Bel w w'

set_option maxHeartbeats 4000000 in
theorem sfind_any (g : Nat) (cb : Array Value) (n : Nat) (p : Nat → Int) (w : World) (eg : ∀ args w, (callFunc g args).run Tryz.prog w = .ok (.enter g args) w) (hn : n < 1000)
    (hf : ∀ (w' : World) (i : Nat), i < n → Bel w w' → Calls Tryz.prog g (#[.int .i64 i] ++ cb) w' fun e w'' => e = .returned (.int .i64 (p i)) ∧ Bel w' w'')
    (hmono : ∀ a b, a ≤ b → b < n → 0 < p b → 0 < p a) :
    Calls Tryz.prog 158 #[.int .i64 n, .func (.func g) #[] cb] w (SFPost w n p) := by
  have HF := Lib.hid hf
  have HM := Lib.hid hmono
  clear hf hmono
  go_enter Tryz.func158, Tryz.ntmps158
  go_wp2
  go_loopw [4, 6] (fun lo hi wr => SFRel w n p lo hi wr) (fun lo hi _ => (intOf hi).toNat - (intOf lo).toNat)
  case atStart => exact ⟨0, n, rfl, rfl, Nat.zero_le _, Nat.le_refl _, Lib.hid ⟨fun t ht => by omega, fun t h1 h2 => by omega⟩, Bel.refl _⟩
  case round =>
    obtain ⟨a, b, rfl, rfl, hab, hbn, HI, hbw⟩ := hrel
    by_cases hlt : a < b
    · obtain ⟨m, hm⟩ : ∃ m, m = (a + b) / 2 := ⟨_, rfl⟩
      have hc := HF.out wr m (by omega) hbw
      have em : ((a : Int) + (b : Int)) / 2 = (m : Int) := by omega
      have h1 : a ≤ m := by omega
      have h2 : m < b := by omega
      clear hm
      obtain ⟨v, hv⟩ : ∃ v, p m = v := ⟨_, rfl⟩
      rw [hv] at hc
      have HV := Lib.hid hv
      clear hv
      by_cases hp : 0 < v
      · go_wp2_with (go_at_fn g; refine hc.mono ?_; rintro e w' ⟨rfl, hb1⟩)
        go_roundw
        case rel =>
          refine ⟨m + 1, b, by go_num, rfl, by omega, hbn, Lib.hid ⟨fun t ht => ?_, HI.out.2⟩, hbw.trans hb1⟩
          exact HM.out t m (by omega) (by omega) (by rw [HV.out]; exact hp)
        case measure => simp [intOf]; omega
      · have hp' : v ≤ 0 := by omega
        clear hp
        go_wp2_with (go_at_fn g; refine hc.mono ?_; rintro e w' ⟨rfl, hb1⟩)
        go_roundw
        case rel =>
          refine ⟨a, m, rfl, by go_num, by omega, by omega, Lib.hid ⟨HI.out.1, fun t ht htn => Int.not_lt.1 fun h => ?_⟩, hbw.trans hb1⟩
          have := HM.out m t ht htn h
          rw [HV.out] at this
          omega
        case measure => simp [intOf]; omega
    · obtain rfl : b = a := by omega
      by_cases hn2 : b < n
      · have hc := HF.out wr b hn2 hbw
        obtain ⟨v, hv⟩ : ∃ v, p b = v := ⟨_, rfl⟩
        rw [hv] at hc
        have HV := Lib.hid hv
        clear hv
        go_wp2_with (go_at_fn g; refine hc.mono ?_; rintro e w' ⟨rfl, hb1⟩)
        go_ret2
        exact ⟨b, v == 0, rfl, hbn, Lib.hid ⟨HI.out, by rw [HV.out]; simp [hn2]⟩, hbw.trans hb1⟩
      · go_wp2
        go_ret2
        exact ⟨b, false, rfl, hbn, Lib.hid ⟨HI.out, by simp [hn2]⟩, hbw⟩

/-! The function that find hands over. -/
set_option maxHeartbeats 2000000 in
theorem probe_is (g : Nat) (cb : Array Value) (b1 b2 : Nat) (S : ByteArray) (n i : Nat) (v : Int) (w : World) (eg : ∀ args w, (callFunc g args).run Tryz.prog w = .ok (.enter g args) w)
    (h1 : w.cell? ⟨b1, 0, none⟩ = some (.func (.func g) #[] cb)) (h2 : w.cell? ⟨b2, 0, none⟩ = some (.string S)) (hS : S.size = n * 15) (hi : i < n) (hn : n < 1000)
    (hs : ∀ w' : World, Bel w w' → Calls Tryz.prog g (#[.string (S.extract (i * 15) (i * 15 + 15))] ++ cb) w' (IntIs w' v)) :
    Calls Tryz.prog 160 #[.int .i64 i, .pointer (some ⟨b1, 0, none⟩), .pointer (some ⟨b2, 0, none⟩)] w (IntIs w v) := by
  have HA := Lib.hid (fun w => at_is S n i w hS hi hn)
  generalize S.extract (i * 15) (i * 15 + 15) = L at HA hs
  have HT : Hid (w.cell? ⟨b1, 0, none⟩ = some (.func (.func g) #[] cb) ∧ w.cell? ⟨b2, 0, none⟩ = some (.string S)) := Lib.hid ⟨h1, h2⟩
  have HS := Lib.hid (hs w.drew (Bel.refl w).drew)
  clear hs hS h1 h2
  go_enter Tryz.func160, Tryz.ntmps160
  go_wp2
  go_region_held3 (fun w' => (w'.cell? ⟨b1, 0, none⟩ = some (.func (.func g) #[] cb) ∧ w'.cell? ⟨b2, 0, none⟩ = some (.string S)))
    (first | assumption | exact HT.out | exact ⟨cell_bel (by assumption : _ ∧ _).1 (by assumption), cell_bel (by assumption : _ ∧ _).2 (by assumption)⟩)
    (first | (go_at_call 161; refine (HA.out _).mono ?_; rintro e w1 ⟨rfl, rfl⟩) | (go_at_fn g; refine HS.out.mono ?_; rintro e w2 ⟨rfl, hb2⟩))
  all_goals go_wp2
  all_goals go_ret
  all_goals exact ⟨rfl, ((Bel.refl w).drew).trans hb2⟩

theorem enters_47 : ∀ (args : Array Value) (w : World), (callFunc 160 args).run Tryz.prog w = .ok (.enter 160 args) w := enters_of Tryz.func160 (by kernel_rfl) rfl
theorem enters_37 : ∀ (args : Array Value) (w : World), (callFunc 141 args).run Tryz.prog w = .ok (.enter 141 args) w := enters_of Tryz.func141 (by kernel_rfl) rfl

/-- A table is sought: the line, or none. -/
def FindPost (w : World) (S : ByteArray) (rows : List Row3) (key : Row3 → Int) (k : Int) (e : Ending) (w' : World) : Prop :=
  ∃ (L : ByteArray) (ok : Bool), e = .returned (.tuple #[.string L, .bool ok]) ∧ Hid ((ok = true ∧ ∃ t, t ∈ rows ∧ key t = k ∧ Ln L t) ∨ (ok = false ∧ ∀ t ∈ rows, key t ≠ k)) ∧ Bel w w'

def pOf (rows : List Row3) (key : Row3 → Int) (k : Int) (i : Nat) : Int := match rows[i]? with | some t => sgn k (key t) | none => 0
theorem pOf_is {rows : List Row3} {key : Row3 → Int} {k : Int} {i : Nat} {t : Row3} (h : rows[i]? = some t) : pOf rows key k i = sgn k (key t) := by unfold pOf; rw [h]
theorem pOf_mono {rows : List Row3} {key : Row3 → Int} {k : Int} (hup : up (rows.map key) = true) {a b : Nat} (hab : a ≤ b) (hb : b < rows.length) (h : 0 < pOf rows key k b) : 0 < pOf rows key k a := by
  rcases Nat.lt_or_eq_of_le hab with hlt | rfl
  · have ha : a < rows.length := by omega
    have e1 : rows[a]? = some rows[a] := by simp
    have e2 : rows[b]? = some rows[b] := by simp
    rw [pOf_is e2, sgn_pos] at h
    rw [pOf_is e1, sgn_pos]
    have := up_lt _ hup a b (key rows[a]) (key rows[b]) (by rw [List.getElem?_map, e1]; rfl) (by rw [List.getElem?_map, e2]; rfl) hlt
    omega
  · exact h
/-- What the search by halves has found. -/
theorem found_is {rows : List Row3} {key : Row3 → Int} {k : Int} {i n : Nat} {f : Bool} (hn : rows.length = n)
    (h : ((∀ t, t < i → 0 < pOf rows key k t) ∧ ∀ t, i ≤ t → t < n → pOf rows key k t ≤ 0) ∧ (f = true ↔ i < n ∧ pOf rows key k i = 0)) (hup : up (rows.map key) = true) :
    (f = true ∧ i < n ∧ ∃ t, rows[i]? = some t ∧ key t = k) ∨ (f = false ∧ ∀ t ∈ rows, key t ≠ k) := by
  obtain ⟨⟨h1, h2⟩, h3⟩ := h
  cases hf : f with
  | true =>
    left
    obtain ⟨hi, hp⟩ := h3.1 hf
    have e1 : rows[i]? = some (rows[i]'(by omega)) := by simp
    refine ⟨rfl, hi, _, e1, ?_⟩
    rw [pOf_is e1, sgn_zero] at hp
    exact hp
  | false =>
    right
    refine ⟨rfl, fun t ht hk => ?_⟩
    obtain ⟨j, hj⟩ := List.getElem?_of_mem ht
    have hjn : j < n := by rw [← hn]; exact (List.getElem?_eq_some_iff.1 hj).1
    have hpj : pOf rows key k j = 0 := by rw [pOf_is hj, sgn_zero]; exact hk
    rcases Nat.lt_trichotomy j i with hlt | rfl | hgt
    · have := h1 j hlt
      omega
    · have := h3.2 ⟨hjn, hpj⟩
      rw [hf] at this
      cases this
    · have hin : i < n := by omega
      have e1 : rows[i]? = some (rows[i]'(by omega)) := by simp
      have h4 := h2 i (Nat.le_refl _) hin
      have h5 := up_lt _ hup i j (key (rows[i]'(by omega))) (key t) (by rw [List.getElem?_map, e1]; rfl) (by rw [List.getElem?_map, hj]; rfl) hgt
      have h6 : ¬ 0 < pOf rows key k i := by omega
      rw [pOf_is e1, sgn_pos] at h6
      omega

set_option maxHeartbeats 4000000 in
theorem find_is (S : ByteArray) (rows : List Row3) (n : Nat) (key : Row3 → Int) (k : Int) (g : Nat) (cb : Array Value) (w : World) (hT : Txt S rows) (hn : rows.length = n) (hn1 : n < 1000) (hup : up (rows.map key) = true)
    (eg : ∀ args w, (callFunc g args).run Tryz.prog w = .ok (.enter g args) w)
    (hs : ∀ (w' : World) (L : ByteArray) (t : Row3), t ∈ rows → Ln L t → Bel w w' → Calls Tryz.prog g (#[.string L] ++ cb) w' (IntIs w' (sgn k (key t)))) :
    Calls Tryz.prog 140 #[.string S, .func (.func g) #[] cb] w (FindPost w S rows key k) := by
  have hmf : ∀ (fn : Fn) (first cap : Array Value) (w : World), (Instr.makeFunc fn first cap).run Tryz.prog w = .ok (.func fn first cap) w := fun _ _ _ _ => rfl
  have hS : S.size = n * 15 := by rw [hT.1, hn]
  have hb1 : Bel w (w.alloc (.cells #[.string S] 169)) := (Bel.refl w).alloc _
  have hb2 : Bel w ((w.alloc (.cells #[.string S] 169)).alloc (.cells #[.func (.func g) #[] cb] 172)) := hb1.alloc _
  have c1 : ((w.alloc (.cells #[.string S] 169)).alloc (.cells #[.func (.func g) #[] cb] 172)).cell? ⟨w.heap.size, 0, none⟩ = some (.string S) := cell_bel (cell_box w (.string S) 169) ((Bel.refl _).alloc _)
  have c2 : ((w.alloc (.cells #[.string S] 169)).alloc (.cells #[.func (.func g) #[] cb] 172)).cell? ⟨w.heap.size + 1, 0, none⟩ = some (.func (.func g) #[] cb) := by
    have := cell_box (w.alloc (.cells #[.string S] 169)) (.func (.func g) #[] cb) 172
    rwa [show (w.alloc (.cells #[.string S] 169)).heap.size = w.heap.size + 1 by simp] at this
  have hF := sfind_any 160 #[.pointer (some ⟨w.heap.size + 1, 0, none⟩), .pointer (some ⟨w.heap.size, 0, none⟩)] n (pOf rows key k) _ enters_47 hn1 (fun w' i hi hbel => by
    have e1 : rows[i]? = some (rows[i]'(by omega)) := by simp
    rw [pOf_is e1]
    exact probe_is g cb (w.heap.size + 1) w.heap.size S n i _ w' eg (cell_bel c2 hbel) (cell_bel c1 hbel) hS hi hn1 (fun w'' hb => hs w'' _ _ (List.mem_of_getElem? e1) (hT.2 i _ e1) ((hb2.trans hbel).trans hb)))
    (fun a b hab hb h => pOf_mono hup hab (by omega) h)
  have HC := Lib.hid (fun w => count_is S n w hS hn1)
  have HA := Lib.hid (fun i hi w => at_is S n i w hS hi hn1)
  have HF := Lib.hid hF
  have HL := Lib.hid hT.2
  have HN := Lib.hid hn
  have HU := Lib.hid hup
  have HB2 := Lib.hid hb2
  have HC1 := Lib.hid c1
  clear hF hs hT hn hup hb1 hb2 hS c2
  go_enter Tryz.func140, Tryz.ntmps140
  go_wp2_with (go_at_call 159; refine (HC.out _).mono ?_; rintro e w' ⟨rfl, rfl⟩)
  refine HF.out.mono ?_
  rintro e w3 ⟨i, f, rfl, hi, HI, hb3⟩
  have hb4 := HB2.out.trans hb3
  have c3 := cell_bel HC1.out hb3
  rcases found_is HN.out HI.out HU.out with ⟨rfl, hlt, t, ht, hk⟩ | ⟨rfl, hno⟩
  · have HE : Hid (∃ t, t ∈ rows ∧ key t = k ∧ Ln (S.extract (i * 15) (i * 15 + 15)) t) := Lib.hid ⟨t, List.mem_of_getElem? ht, hk, HL.out i t ht⟩
    have hA := HA.out i hlt
    clear ht hk HF HB2 HC1 HI
    go_wp2_with (go_at_call 161; refine (hA _).mono ?_; rintro e w' ⟨rfl, rfl⟩)
    go_ret2
    exact ⟨_, true, rfl, Lib.hid (.inl ⟨rfl, HE.out⟩), hb4⟩
  · have HE := Lib.hid hno
    clear hno HF HB2 HC1 HI
    go_wp2
    go_ret2
    exact ⟨_, false, rfl, Lib.hid (.inr ⟨rfl, HE.out⟩), hb4⟩
end Go.Proofs.YtipigfgnpfhdbaaGreatDoor.F
namespace Go.Proofs.YtipigfgnpfhdbaaGreatDoor.F
open Go.RowKit U
set_option linter.unusedVariables false

theorem spl_row {t : Row3} {a b n : Int} (ht : t ∈ tabS) (h : Spl t.1 a b n) : a = t.2.1 ∧ b = t.2.2 ∧ n = if t.2.2 = 0 then 1 else 2 := by
  rcases h with ⟨u, hu, h1, rfl, rfl, hn⟩ | ⟨h, _⟩
  · obtain rfl := key_one hu ht h1
    exact ⟨rfl, rfl, hn⟩
  · exact absurd rfl (h t ht)
theorem spl_no {r a b n : Int} (hno : ∀ t ∈ tabS, kS t ≠ r) (h : Spl r a b n) : a = 0 ∧ b = 0 ∧ n = 0 := by
  rcases h with ⟨u, hu, h1, _⟩ | ⟨_, h⟩
  · exact absurd h1 (hno u hu)
  · exact h
theorem inS {t : Row3} (h : t ∈ tabS) : in16 t = true := List.all_eq_true.1 in16S t h

def SplIs (w : World) (a b n : Int) (e : Ending) (w' : World) : Prop := e = .returned (.tuple #[.int .i32 a, .int .i32 b, .int .i64 n]) ∧ Bel w w'

set_option maxHeartbeats 4000000 in
theorem split_is (r a b n : Int) (w : World) (h : Spl r a b n) : Calls Tryz.prog 125 #[.int .i32 r] w (SplIs w a b n) := by
  have hmf : ∀ (fn : Fn) (first cap : Array Value) (w : World), (Instr.makeFunc fn first cap).run Tryz.prog w = .ok (.func fn first cap) w := fun _ _ _ _ => rfl
  have hb1 : Bel w (w.alloc (.cells #[.int .i32 r] 21)) := (Bel.refl w).alloc _
  have hF := find_is splitsS tabS 572 kS r 141 #[.pointer (some ⟨w.heap.size, 0, none⟩)] (w.alloc (.cells #[.int .i32 r] 21)) txtS tabS_len (by omega) upS enters_37
    (fun w' L t ht hl hb => sideS_is r _ w.heap.size L t w' hl (inS ht) (cell_bel (cell_box w (.int .i32 r) 21) hb) rfl)
  have HF := Lib.hid hF
  have HS := Lib.hid h
  have HB := Lib.hid hb1
  clear hF h hb1
  refine calls_of_wp Tryz.func125 body4 ?_
  generalize splitsS = S at HF ⊢
  generalize posAt Tryz.f125 = p
  unfold code4
  simp only [Tryz.ntmps125, List.size_toArray, List.length_cons, List.length_nil, Nat.reduceAdd, Nat.reduceSub, Array.replicate_succ, Array.replicate_zero, List.push_toArray, List.append_toArray, List.nil_append, List.cons_append]
  go_wp2_with fail
  refine HF.out.mono ?_
  rintro e w3 ⟨L, ok, rfl, HE, hb3⟩
  have hb4 := HB.out.trans hb3
  rcases HE.out with ⟨rfl, t, ht, hk, hl⟩ | ⟨rfl, hno⟩
  · have hk' : t.1 = r := hk
    subst hk'
    obtain ⟨ea, eb, hn⟩ := spl_row ht HS.out
    have H1 : Hid (∀ w, Calls Tryz.prog 144 #[.string L] w (RuneIs w a)) := Lib.hid fun w => by rw [ea]; exact first_is L t w hl (inS ht)
    have H2 : Hid (∀ w, Calls Tryz.prog 145 #[.string L] w (RuneIs w b)) := Lib.hid fun w => by rw [eb]; exact second_is L t w hl (inS ht)
    have H3 := Lib.hid (fun w => parts_is L t n w hl (inS ht) hn)
    clear ea eb hn hl ht HE HF HS HB hk hb3
    go_wp2_with (first | (go_at_call 144; refine (H1.out _).mono ?_; rintro e w4 ⟨rfl, h4⟩) | (go_at_call 145; refine (H2.out _).mono ?_; rintro e w5 ⟨rfl, h5⟩) | (go_at_call 146; refine (H3.out _).mono ?_; rintro e w6 ⟨rfl, h6⟩))
    go_ret3
    exact ⟨rfl, ((hb4.trans h4).trans h5).trans h6⟩
  · obtain ⟨rfl, rfl, rfl⟩ := spl_no hno HS.out
    clear hno HE HF HS HB hb3
    go_wp2
    go_ret3
    exact ⟨rfl, hb4⟩

end Go.Proofs.YtipigfgnpfhdbaaGreatDoor.F
namespace Go.Proofs.YtipigfgnpfhdbaaGreatDoor.F
open Go.RowKit U
set_option linter.unusedVariables false

theorem info21 : (Tryz.prog.info? 21).map (fun i => (i.zero, i.size, i.bytes)) = some (some (.int .i32 0), 1, 4) := by kernel_rfl
theorem syl_is (r : Int) (b : Bool) (w : World) (h : decide (44032 ≤ r ∧ r < 55204) = b) : Calls Tryz.prog 147 #[.int .i32 r] w fun e w' => e = .returned (.bool b) ∧ w = w' := by
  subst h
  go_enter Tryz.func147, Tryz.ntmps147
  go_wp2
  all_goals go_ret
  all_goals refine ⟨ret_bool ?_, rfl⟩
  all_goals (rw [Bool.eq_iff_iff]; simp; try omega)
theorem split_no (r : Int) (w : World) (h : r < 44032 ∨ 55204 ≤ r) : Calls Tryz.prog 126 #[.int .i32 r] w fun e w' => e = .returned (.slice none 0 0) ∧ w = w' := by
  have H := Lib.hid (decide_eq_false (p := 44032 ≤ r ∧ r < 55204) (by omega))
  clear h
  go_enter Tryz.func126, Tryz.ntmps126
  go_wp2_with (go_at_call 147; (with_reducible refine (syl_is _ false _ H.out).mono ?_); rintro e w' ⟨rfl, rfl⟩)
  go_ret
  exact ⟨rfl, rfl⟩

theorem split_two (r a b : Int) (w : World) (h0 : 44032 ≤ r) (h1 : r < 55204) (h : (r - 44032) % 28 = 0) (ha : 4352 + (r - 44032) / 588 = a) (hb : 4449 + (r - 44032) % 588 / 28 = b) :
    Calls Tryz.prog 126 #[.int .i32 r] w (Gives w [a, b] 2) := by
  have H := Lib.hid (decide_eq_true (p := 44032 ≤ r ∧ r < 55204) ⟨h0, h1⟩)
  have ht : ¬ 0 < (r - 44032) % 28 := by omega
  have HA := Lib.hid ha
  have HB := Lib.hid hb
  clear h ha hb
  go_enter Tryz.func126, Tryz.ntmps126
  go_wp2_with (go_at_call 147; (with_reducible refine (syl_is _ true _ H.out).mono ?_); rintro e w' ⟨rfl, rfl⟩)
  go_ret
  rw [HA.out, HB.out]
  exact gives_of rfl (Own.lit w 21 .i32 rfl rfl (by omega)) ((Bel.refl w).alloc _)

set_option maxHeartbeats 1000000 in
theorem split_three (r a b c : Int) (w : World) (h0 : 44032 ≤ r) (h1 : r < 55204) (h : 0 < (r - 44032) % 28) (ha : 4352 + (r - 44032) / 588 = a) (hb : 4449 + (r - 44032) % 588 / 28 = b) (hc : 4519 + (r - 44032) % 28 = c) :
    Calls Tryz.prog 126 #[.int .i32 r] w (Gives w [a, b, c] 3) := by
  obtain ⟨i0, hi0, hz0, hz1, hz2⟩ := info_parts info21
  have H := Lib.hid (decide_eq_true (p := 44032 ≤ r ∧ r < 55204) ⟨h0, h1⟩)
  have HA := Lib.hid ha
  have HB := Lib.hid hb
  have HC := Lib.hid hc
  have HR := Lib.hid (rd_lit_at (w := w.alloc (.cells #[.int .i32 (4352 + (r - 44032) / 588), .int .i32 (4449 + (r - 44032) % 588 / 28)] 21)) (cs := #[.int .i32 (4519 + (r - 44032) % 28)]) (t := 21) (k := .i32) (l := [c]) (n := w.heap.size + 1) (by simp) (by simp [hc]))
  have HO := Lib.hid ((Own.lit w 21 .i32 (cs := #[.int .i32 (4352 + (r - 44032) / 588), .int .i32 (4449 + (r - 44032) % 588 / 28)]) (l := [a, b]) (n := 2) (by simp [ha, hb]) rfl (by omega)).keep ((Bel.refl _).alloc (.cells #[.int .i32 (4519 + (r - 44032) % 28)] 21)))
  clear ha hb hc
  go_enter Tryz.func126, Tryz.ntmps126
  go_wp2_with (first
    | (go_at_call 147; (with_reducible refine (syl_is _ true _ H.out).mono ?_); rintro e w' ⟨rfl, rfl⟩)
    | (at_builtin; refine wpl_append (by rfl) (.tmp 23) (.tmp 26) 22 rfl Tryz.underlying22 hi0 hz0 hz1 hz2 rfl (by omega) HO.out rfl HR.out rfl rfl (fun e => by cases e) (by simp) (by simp; omega) ?_; intro v2 w2 hown2 hb2)
    | fail)
  go_ret
  exact gives_of rfl hown2 (Below.trans (((Bel.refl w).alloc _).alloc _) hb2)
/-- What Split gives, and what Parts gives: the same list, at every character. -/
theorem split_gives (r : Int) (n : Nat) (w : World) (h : (parts r).length = n) : Calls Tryz.prog 126 #[.int .i32 r] w (Gives w (parts r) n) := by
  by_cases h0 : 44032 ≤ r ∧ r < 55204
  · obtain ⟨h0, h1⟩ := h0
    by_cases ht : (r - 44032) % 28 = 0
    · rw [parts_two h0 h1 ht] at h ⊢
      subst h
      exact split_two r _ _ w h0 h1 ht rfl rfl
    · rw [parts_three h0 h1 (by omega)] at h ⊢
      subst h
      exact split_three r _ _ _ w h0 h1 (by omega) rfl rfl rfl
  · rw [parts_no (by omega)] at h ⊢
    subst h
    refine (split_no r w (by omega)).mono ?_
    rintro e w' ⟨rfl, rfl⟩
    exact ⟨none, 0, rfl, Nat.le_refl _, Rd.nil, fun _ => rfl, Bel.refl _⟩
end Go.Proofs.YtipigfgnpfhdbaaGreatDoor.F
namespace Go.Proofs.YtipigfgnpfhdbaaGreatDoor.F
open Go.RowKit U
set_option linter.unusedVariables false

/-- A list of its own. -/
def GivesO (w : World) (l : List Int) (n : Nat) (e : Ending) (w' : World) : Prop := ∃ v, e = .returned v ∧ l.length = n ∧ U.Own w' w.heap.size 21 .i32 v l ∧ Bel w w'
theorem giveso_of {w w' : World} {l : List Int} {n : Nat} {v : Value} (hn : l.length = n) (h : U.Own w' w.heap.size 21 .i32 v l) (hb : Bel w w') : GivesO w l n (.returned v) w' := ⟨v, rfl, hn, h, hb⟩
theorem split_two_o (r a b : Int) (w : World) (h0 : 44032 ≤ r) (h1 : r < 55204) (h : (r - 44032) % 28 = 0) (ha : 4352 + (r - 44032) / 588 = a) (hb : 4449 + (r - 44032) % 588 / 28 = b) :
    Calls Tryz.prog 126 #[.int .i32 r] w (GivesO w [a, b] 2) := by
  have H := Lib.hid (decide_eq_true (p := 44032 ≤ r ∧ r < 55204) ⟨h0, h1⟩)
  have ht : ¬ 0 < (r - 44032) % 28 := by omega
  have HA := Lib.hid ha
  have HB := Lib.hid hb
  clear h ha hb
  go_enter Tryz.func126, Tryz.ntmps126
  go_wp2_with (go_at_call 147; (with_reducible refine (syl_is _ true _ H.out).mono ?_); rintro e w' ⟨rfl, rfl⟩)
  go_ret
  rw [HA.out, HB.out]
  exact giveso_of rfl (Own.lit w 21 .i32 rfl rfl (by omega)) ((Bel.refl w).alloc _)

set_option maxHeartbeats 1000000 in
theorem split_three_o (r a b c : Int) (w : World) (h0 : 44032 ≤ r) (h1 : r < 55204) (h : 0 < (r - 44032) % 28) (ha : 4352 + (r - 44032) / 588 = a) (hb : 4449 + (r - 44032) % 588 / 28 = b) (hc : 4519 + (r - 44032) % 28 = c) :
    Calls Tryz.prog 126 #[.int .i32 r] w (GivesO w [a, b, c] 3) := by
  obtain ⟨i0, hi0, hz0, hz1, hz2⟩ := info_parts info21
  have H := Lib.hid (decide_eq_true (p := 44032 ≤ r ∧ r < 55204) ⟨h0, h1⟩)
  have HA := Lib.hid ha
  have HB := Lib.hid hb
  have HC := Lib.hid hc
  have HR := Lib.hid (rd_lit_at (w := w.alloc (.cells #[.int .i32 (4352 + (r - 44032) / 588), .int .i32 (4449 + (r - 44032) % 588 / 28)] 21)) (cs := #[.int .i32 (4519 + (r - 44032) % 28)]) (t := 21) (k := .i32) (l := [c]) (n := w.heap.size + 1) (by simp) (by simp [hc]))
  have HO := Lib.hid ((Own.lit w 21 .i32 (cs := #[.int .i32 (4352 + (r - 44032) / 588), .int .i32 (4449 + (r - 44032) % 588 / 28)]) (l := [a, b]) (n := 2) (by simp [ha, hb]) rfl (by omega)).keep ((Bel.refl _).alloc (.cells #[.int .i32 (4519 + (r - 44032) % 28)] 21)))
  clear ha hb hc
  go_enter Tryz.func126, Tryz.ntmps126
  go_wp2_with (first
    | (go_at_call 147; (with_reducible refine (syl_is _ true _ H.out).mono ?_); rintro e w' ⟨rfl, rfl⟩)
    | (at_builtin; refine wpl_append (by rfl) (.tmp 23) (.tmp 26) 22 rfl Tryz.underlying22 hi0 hz0 hz1 hz2 rfl (by omega) HO.out rfl HR.out rfl rfl (fun e => by cases e) (by simp) (by simp; omega) ?_; intro v2 w2 hown2 hb2)
    | fail)
  go_ret
  exact giveso_of rfl hown2 (Below.trans (((Bel.refl w).alloc _).alloc _) hb2)
/-- What Split gives, and what Parts gives: the same list, at every character. -/
theorem split_gives_o (r : Int) (n : Nat) (w : World) (h : (parts r).length = n) : Calls Tryz.prog 126 #[.int .i32 r] w (GivesO w (parts r) n) := by
  by_cases h0 : 44032 ≤ r ∧ r < 55204
  · obtain ⟨h0, h1⟩ := h0
    by_cases ht : (r - 44032) % 28 = 0
    · rw [parts_two h0 h1 ht] at h ⊢
      subst h
      exact split_two_o r _ _ w h0 h1 ht rfl rfl
    · rw [parts_three h0 h1 (by omega)] at h ⊢
      subst h
      exact split_three_o r _ _ _ w h0 h1 (by omega) rfl rfl rfl
  · rw [parts_no (by omega)] at h ⊢
    subst h
    refine (split_no r w (by omega)).mono ?_
    rintro e w' ⟨rfl, rfl⟩
    exact giveso_of rfl (Own.nil _ _ _ _) (Bel.refl _)

set_option maxHeartbeats 1000000 in
theorem parts_one (c a : Int) (w : World) (h : Spl c a 0 1) : Calls Tryz.prog 101 #[.agg #[], .int .i32 c] w (GivesO w [a] 1) := by
  have H := Lib.hid (fun w => split_is c a 0 1 w h)
  clear h
  go_enter Tryz.func101, Tryz.ntmps101
  go_wp2_with fail
  with_reducible refine (H.out _).mono ?_
  rintro e w1 ⟨rfl, h1⟩
  go_wp2
  go_ret
  have hb : Bel w w1 := ((Bel.refl w).alloc _).trans h1
  exact giveso_of rfl ((Own.lit w1 21 .i32 rfl rfl (by simp)).less hb.size) (hb.alloc _)
set_option maxHeartbeats 1000000 in
theorem parts_pair (c a b : Int) (w : World) (h : Spl c a b 2) : Calls Tryz.prog 101 #[.agg #[], .int .i32 c] w (GivesO w [a, b] 2) := by
  have H := Lib.hid (fun w => split_is c a b 2 w h)
  clear h
  go_enter Tryz.func101, Tryz.ntmps101
  go_wp2_with fail
  with_reducible refine (H.out _).mono ?_
  rintro e w1 ⟨rfl, h1⟩
  go_wp2
  go_ret
  have hb : Bel w w1 := ((Bel.refl w).alloc _).trans h1
  exact giveso_of rfl ((Own.lit w1 21 .i32 rfl rfl (by simp)).less hb.size) (hb.alloc _)
set_option maxHeartbeats 1000000 in
theorem parts_syl (c : Int) (n : Nat) (w : World) (h : Spl c 0 0 0) (hn : (parts c).length = n) : Calls Tryz.prog 101 #[.agg #[], .int .i32 c] w (GivesO w (parts c) n) := by
  have H := Lib.hid (fun w => split_is c 0 0 0 w h)
  have H2 := Lib.hid (fun w => split_gives_o c n w hn)
  clear h hn
  generalize parts c = l at H2 ⊢
  go_enter Tryz.func101, Tryz.ntmps101
  go_wp2_with fail
  with_reducible refine (H.out _).mono ?_
  rintro e w1 ⟨rfl, h1⟩
  have hb : Bel w w1 := ((Bel.refl w).alloc _).trans h1
  go_wp2_with fail
  with_reducible refine (H2.out _).mono ?_
  rintro e w2 ⟨v, rfl, hl, hown, h2⟩
  go_wp2
  go_ret
  exact giveso_of hl (hown.less hb.size) (hb.trans h2)
theorem parts_give (c : Int) (n : Nat) (w : World) (h : (pts c).length = n) : Calls Tryz.prog 101 #[.agg #[], .int .i32 c] w (GivesO w (pts c) n) := by
  obtain ⟨a, b, k, hs⟩ := spl_any c
  rcases spl_n hs with ⟨rfl, hb⟩ | ⟨rfl, rfl⟩ | ⟨rfl, rfl, rfl⟩
  · rcases spl_pts hs with ⟨h1, _⟩ | ⟨_, h1⟩ | ⟨h1, _⟩
    · omega
    · rw [h1] at h ⊢; subst h; exact parts_pair c a b w hs
    · omega
  · rcases spl_pts hs with ⟨_, h1⟩ | ⟨h1, _⟩ | ⟨h1, _⟩
    · rw [h1] at h ⊢; subst h; exact parts_one c a w hs
    · omega
    · omega
  · rcases spl_pts hs with ⟨h1, _⟩ | ⟨h1, _⟩ | ⟨_, h1⟩
    · omega
    · omega
    · rw [h1] at h ⊢; exact parts_syl c n w hs h
end Go.Proofs.YtipigfgnpfhdbaaGreatDoor.F
