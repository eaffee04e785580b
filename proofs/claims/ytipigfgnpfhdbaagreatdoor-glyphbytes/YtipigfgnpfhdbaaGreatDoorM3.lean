/- What eacc.runs answers: ten runs, each with its first code, its text and whether it is one of alternates. The texts are letters, drawn out of the translation; the body is the translation's own, the texts and the places in the Go text struck out. No condition. What eacc.runs and next answer: the ten runs; the number behind another one. No condition. What eacc.runFor answers: of the ten runs the last one that does not begin behind a number. No condition. What a run's 'codes' tells its caller: code by code, each with its character, in order, until it is told to stop. No condition. A range over a run's 'codes': by what its body does in a round; the body may write what is its own. No condition. What eacc.Rune answers of any number: the character that the chapter's runs have for it, or none. No condition. What eacc.Codes answers of any character: the numbers of the chapter's runs that are it, rising, in a new list. No condition. What small.sign, raised, greek and Rune answer, of the three sets and any number: what the chapter tells. No condition. -/
import Derived.Test.YtipigfgnpfhdbaaGreatDoorChecked
import Derived.Test.YtipigfgnpfhdbaaGreatDoorM1
import Derived.Test.YtipigfgnpfhdbaaGreatDoorM2
import Derived.Deep.WholeRow
import Derived.Laws.CopyOwn
import Derived.Lib.Builder
import Derived.RangeFuncNested
import Derived.RangeFuncBound
import Derived.RangeFuncCalls
import Derived.RangeFuncLeaves
import Derived.Shelf.Abstract
import Derived.Shelf.RegionOpen
import Derived.OwnWalkIn
import Derived.TacticsInMore
import Derived.LoopNIn
import Derived.LoopIn
import Derived.Lib.OthersKept
import Derived.Maps.AppendAt
import Derived.WalkKit
import Derived.Below
import Derived.Lib.Hide
import Derived.OpenShut
namespace Go.Proofs.YtipigfgnpfhdbaaGreatDoor.E
open Go.RowKit U
set_option linter.unusedVariables false
set_option maxRecDepth 1000000

/-- The constant strings that a body's operations build into values, in their order. -/
def cst : Operand → List ByteArray
  | .const (.string s) => [s]
  | _ => []
def strOf : Op → List ByteArray
  | .build _ fs => fs.toList.flatMap fun x => cst x.2
  | _ => []
def strs : Code → List ByteArray
  | .seq a b => strs a ++ strs b
  | .region _ ops _ => ops.toList.flatMap fun o => strOf o.op
  | _ => []
noncomputable def strAt (f : Func) (i : Nat) : ByteArray := match f.body with
  | some c => (strs c).getD i ByteArray.empty
  | none => ByteArray.empty
/-- The places in the Go text that a body's operations bear, in their order. -/
def poss : Code → List String
  | .seq a b => poss a ++ poss b
  | .region _ ops _ => ops.toList.map (·.pos)
  | _ => []
noncomputable def posAt (f : Func) (i : Nat) : String := match f.body with
  | some c => (poss c).getD i ""
  | none => ""
def code11 (S : Nat → ByteArray) (p : Nat → String) : Code := ((Go.Code.region 0 #[Go.Oper.mk (some 0) (Go.Op.alloc 87) 0 (p 0) #[] none] false).seq ((Go.Code.region 1 #[Go.Oper.mk (some 1) (Go.Op.build 86 #[(0, Go.Operand.const (Go.Value.int Go.IntKind.i64 2171681)), (1, Go.Operand.const (Go.Value.string (S 0)))]) 86 (p 1) #[] none, Go.Oper.mk (some 2) (Go.Op.build 86 #[(0, Go.Operand.const (Go.Value.int Go.IntKind.i64 2171688)), (1, Go.Operand.const (Go.Value.string (S 1)))]) 86 (p 2) #[] none, Go.Oper.mk (some 3) (Go.Op.build 86 #[(0, Go.Operand.const (Go.Value.int Go.IntKind.i64 2175009)), (1, Go.Operand.const (Go.Value.string (S 2)))]) 86 (p 3) #[] none, Go.Oper.mk (some 4) (Go.Op.build 86 #[(0, Go.Operand.const (Go.Value.int Go.IntKind.i64 2568225)), (1, Go.Operand.const (Go.Value.string (S 3))), (2, Go.Operand.const (Go.Value.bool true))]) 86 (p 4) #[] none, Go.Oper.mk (some 5) (Go.Op.build 86 #[(0, Go.Operand.const (Go.Value.int Go.IntKind.i64 2568228)), (1, Go.Operand.const (Go.Value.string (S 4))), (2, Go.Operand.const (Go.Value.bool true))]) 86 (p 5) #[] none, Go.Oper.mk (some 6) (Go.Op.build 86 #[(0, Go.Operand.const (Go.Value.int Go.IntKind.i64 2568237)), (1, Go.Operand.const (Go.Value.string (S 5))), (2, Go.Operand.const (Go.Value.bool true))]) 86 (p 6) #[] none, Go.Oper.mk (some 7) (Go.Op.build 86 #[(0, Go.Operand.const (Go.Value.int Go.IntKind.i64 3362337)), (1, Go.Operand.const (Go.Value.string (S 6))), (2, Go.Operand.const (Go.Value.bool true))]) 86 (p 7) #[] none, Go.Oper.mk (some 8) (Go.Op.build 86 #[(0, Go.Operand.const (Go.Value.int Go.IntKind.i64 6890529)), (1, Go.Operand.const (Go.Value.string (S 7)))]) 86 (p 8) #[] none, Go.Oper.mk (some 9) (Go.Op.build 86 #[(0, Go.Operand.const (Go.Value.int Go.IntKind.i64 6890785)), (1, Go.Operand.const (Go.Value.string (S 8)))]) 86 (p 9) #[] none, Go.Oper.mk (some 10) (Go.Op.build 86 #[(0, Go.Operand.const (Go.Value.int Go.IntKind.i64 6891052)), (1, Go.Operand.const (Go.Value.string (S 9)))]) 86 (p 10) #[] none, Go.Oper.mk (some 11) (Go.Op.build 87 #[(0, Go.Operand.tmp 1), (1, Go.Operand.tmp 2), (2, Go.Operand.tmp 3), (3, Go.Operand.tmp 4), (4, Go.Operand.tmp 5), (5, Go.Operand.tmp 6), (6, Go.Operand.tmp 7), (7, Go.Operand.tmp 8), (8, Go.Operand.tmp 9), (9, Go.Operand.tmp 10)]) 87 (p 11) #[Go.Edge.mk 0 Go.Ground.data, Go.Edge.mk 1 Go.Ground.data, Go.Edge.mk 2 Go.Ground.data, Go.Edge.mk 3 Go.Ground.data, Go.Edge.mk 4 Go.Ground.data, Go.Edge.mk 5 Go.Ground.data, Go.Edge.mk 6 Go.Ground.data, Go.Edge.mk 7 Go.Ground.data, Go.Edge.mk 8 Go.Ground.data, Go.Edge.mk 9 Go.Ground.data] none, Go.Oper.mk none (Go.Op.store 87 (Go.Operand.tmp 0) (Go.Operand.tmp 11)) 0 (p 12) #[Go.Edge.mk 10 Go.Ground.data, Go.Edge.mk 0 Go.Ground.phase, Go.Edge.mk 1 Go.Ground.phase, Go.Edge.mk 2 Go.Ground.phase, Go.Edge.mk 3 Go.Ground.phase, Go.Edge.mk 4 Go.Ground.phase, Go.Edge.mk 5 Go.Ground.phase, Go.Edge.mk 6 Go.Ground.phase, Go.Edge.mk 7 Go.Ground.phase, Go.Edge.mk 8 Go.Ground.phase, Go.Edge.mk 9 Go.Ground.phase, Go.Edge.mk 10 Go.Ground.phase] none] false).seq Go.Code.ret))
theorem body11 : Tryz.f60.body = some (code11 (strAt Tryz.f60) (posAt Tryz.f60)) := by kernel_rfl
theorem str0 : (strAt Tryz.f60 0).data.toList = txt 0 := by kernel_rfl
theorem str1 : (strAt Tryz.f60 1).data.toList = txt 1 := by kernel_rfl
theorem str2 : (strAt Tryz.f60 2).data.toList = txt 2 := by kernel_rfl
theorem str3 : (strAt Tryz.f60 3).data.toList = txt 3 := by kernel_rfl
theorem str4 : (strAt Tryz.f60 4).data.toList = txt 4 := by kernel_rfl
theorem str5 : (strAt Tryz.f60 5).data.toList = txt 5 := by kernel_rfl
theorem str6 : (strAt Tryz.f60 6).data.toList = txt 6 := by kernel_rfl
theorem str7 : (strAt Tryz.f60 7).data.toList = txt 7 := by kernel_rfl
theorem str8 : (strAt Tryz.f60 8).data.toList = txt 8 := by kernel_rfl
theorem str9 : (strAt Tryz.f60 9).data.toList = txt 9 := by kernel_rfl
theorem str_is : ∀ k, k < 10 → (strAt Tryz.f60 k).data.toList = txt k
  | 0, _ => str0
  | 1, _ => str1
  | 2, _ => str2
  | 3, _ => str3
  | 4, _ => str4
  | 5, _ => str5
  | 6, _ => str6
  | 7, _ => str7
  | 8, _ => str8
  | 9, _ => str9
  | k + 10, h => absurd h (by omega)
theorem good {k : Nat} (hk : k < 10) : decs (strAt Tryz.f60 k) (strAt Tryz.f60 k).size 0 = chs k ∧ (strAt Tryz.f60 k).size < 1000 := by
  have h1 := str_is k hk
  have hm : txt k ∈ texts := by
    have hl : k < texts.length := hk
    unfold txt
    rw [List.getD_eq_getElem?_getD, List.getElem?_eq_getElem hl]
    exact List.getElem_mem hl
  have h2 := List.all_eq_true.1 texts_ok _ hm
  have h3 := List.all_eq_true.1 texts_short _ hm
  have h4 : three (txt k) = chs k := by
    have hl : k < texts.length := hk
    unfold chs
    rw [← texts_are]
    unfold txt
    rw [List.getD_eq_getElem?_getD, List.getD_eq_getElem?_getD, List.getElem?_map, List.getElem?_eq_getElem hl]
    rfl
  refine ⟨decs_of h1 h2 h4, ?_⟩
  have h5 : (strAt Tryz.f60 k).size = (strAt Tryz.f60 k).data.toList.length := (Array.length_toList (xs := (strAt Tryz.f60 k).data)).symm
  rw [h5, h1]
  simpa using h3
end Go.Proofs.YtipigfgnpfhdbaaGreatDoor.E
namespace Go.Proofs.YtipigfgnpfhdbaaGreatDoor.E
open Go.RowKit U
set_option linter.unusedVariables false

/-- A run's cells; all runs' cells. -/
def rc (S : Nat → ByteArray) (k : Nat) : Array Value := #[.int .i64 (fst k), .string (S k), .bool (alt k)]
def rcs (S : Nat → ByteArray) : Array Value := #[.int .i64 (fst 0), .string (S 0), .bool (alt 0), .int .i64 (fst 1), .string (S 1), .bool (alt 1), .int .i64 (fst 2), .string (S 2), .bool (alt 2), .int .i64 (fst 3), .string (S 3), .bool (alt 3), .int .i64 (fst 4), .string (S 4), .bool (alt 4), .int .i64 (fst 5), .string (S 5), .bool (alt 5), .int .i64 (fst 6), .string (S 6), .bool (alt 6), .int .i64 (fst 7), .string (S 7), .bool (alt 7), .int .i64 (fst 8), .string (S 8), .bool (alt 8), .int .i64 (fst 9), .string (S 9), .bool (alt 9)]
def zrcs : Array Value := (List.replicate 10 [Value.int .i64 0, .string ⟨#[]⟩, .bool false]).flatten.toArray

section
variable {P : Program} {w : World}
theorem wpl_build {ops : Array Oper} {rest : List Oper} {o : Oper} {a : Act} {Q : Exit → Act → World → Prop} (hg : o.guard = none) (t : TypeId) (parts : Array (Nat × Operand)) (ho : o.op = .build t parts)
    (v : Array Value) (hf : P.built t (parts.map fun (i, x) => (i, a.eval x)).toList = some v) (h : wpList P ops Q rest (a.put o.dst (.agg v)) w) : wpList P ops Q (o :: rest) a w :=
  wpList_build hg t parts ho (by rw [hf]; rfl) (by rw [hf]; exact h)
theorem wpl_store_row {ops : Array Oper} {rest : List Oper} {o : Oper} {a : Act} {Q : Exit → Act → World → Prop} (hgd : o.guard = none) (ty : TypeId) (x y : Operand) (ho : o.op = .store ty x y)
    (g : Nat) (cells : Array Value) (hx : a.eval x = .pointer (some ⟨g, 0, none⟩)) (hy : a.eval y = .agg cells)
    (t : TypeId) (old : Array Value) (w' : World) (hg : w'.heap.size = g) (hw : w = w'.alloc (.cells old t)) (hi : (P.info? ty).map (·.size) = some cells.size)
    (hold : old.size = cells.size) (h1 : cells.all (·.oneCell') = true)
    (h : wpList P ops Q rest (a.put o.dst undef) (w'.alloc (.cells cells t))) : wpList P ops Q (o :: rest) a w := by
  subst hg
  subst hw
  refine wpList_plain hgd fun K hK => ?_
  refine wp_store_row ty x y ho w'.heap.size cells hx hy t old (heap_alloc_last w' _) hi hold h1 ?_
  rw [World.setRow_alloc_new]
  exact hK _ _ h
end

theorem zero35 : (Tryz.prog.info? 87).map (fun i => (i.zero, i.size)) = some (some (.agg zrcs), 30) := by kernel_rfl

theorem results_cell {P : Program} {fn : Func} {p : Tmp} {ty : TypeId} (h : fn.results = #[.cell p ty]) (tmps : Array Value) (w : World) :
    (results fn tmps).run P w = ((asAddr (tmps.getD p undef)).run P w).andThen fun a w₁ => (loadVar ty a).run P w₁ := by
  simp only [results, h]
  simp [Sem.run_bind, Result.andThen]

set_option maxRecDepth 100000 in
set_option maxHeartbeats 2000000 in
theorem runs_is (w : World) : Calls Tryz.prog 60 #[] w fun e w' => e = .returned (.agg (rcs (strAt Tryz.f60))) ∧ Bel w w' := by
  refine calls_of_wp Tryz.func60 body11 ?_
  generalize strAt Tryz.f60 = S
  generalize posAt Tryz.f60 = p
  unfold code11
  simp only [Tryz.ntmps60, List.size_toArray, List.length_nil, Nat.reduceSub, Array.replicate_succ, Array.replicate_zero, List.push_toArray, List.append_toArray, List.nil_append, List.cons_append]
  have hz : (rcs S).size = 30 := rfl
  have h1 : (rcs S).all (·.oneCell') = true := by kernel_rfl
  have HZ := Lib.hid hz
  have H1 := Lib.hid h1
  clear hz h1
  go_wp2_with (first | ((with_reducible (show wpList _ _ _ (Oper.mk _ (Op.build 87 _) _ _ _ _ :: _) _ _)); refine wpl_build rfl 87 _ rfl (rcs S) (by kernel_rfl) ?_; generalize hV : rcs S = V at HZ H1 ⊢; replace hV := Lib.hid hV) | ((with_reducible (show wpList _ _ _ (Oper.mk _ (Op.store 87 _ _) _ _ _ _ :: _) _ _)); refine wpl_store_row rfl 87 _ _ rfl w.heap.size V rfl rfl 87 _ w rfl rfl (by rw [HZ.out]; kernel_rfl) (by rw [HZ.out]; rfl) H1.out ?_) | fail)
  have hld := run_loadVar_new (P := Tryz.prog) w 87 V 10 86 (by kernel_rfl) (by rw [HZ.out]; kernel_rfl)
  refine bodyPost_ret (v := .agg V) ?_ rfl ⟨by rw [hV.out], (Bel.refl w).alloc _⟩
  rw [results_cell rfl]
  simp [asAddr, Result.andThen, hld, Act.put]

/-- The run behind the run k of all runs' cells. -/
theorem rcs_at (S : Nat → ByteArray) : ∀ k, k < 10 → (rcs S).extract (k * 3) (k * 3 + 3) = rc S k := by
  intro k hk
  obtain rfl | rfl | rfl | rfl | rfl | rfl | rfl | rfl | rfl | rfl : k = 0 ∨ k = 1 ∨ k = 2 ∨ k = 3 ∨ k = 4 ∨ k = 5 ∨ k = 6 ∨ k = 7 ∨ k = 8 ∨ k = 9 := by omega
  all_goals rfl

theorem and255 {c : Int} (h0 : 0 ≤ c) (h1 : c < 1099511627776) : bits BinOp.and IntKind.i64 c 255 = c % 256 := by
  obtain ⟨a, rfl⟩ : ∃ a : Nat, c = a := ⟨c.toNat, by omega⟩
  have ha : a < 1099511627776 := by omega
  have e1 : (BitVec.ofInt 64 (a : Int)).toNat = a := by
    rw [BitVec.ofInt_natCast, BitVec.toNat_ofNat]; exact Nat.mod_eq_of_lt (by omega)
  have e2 : (BitVec.ofInt 64 (255 : Int)).toNat = 255 := by decide
  have e3 : a &&& 255 = a % 256 := Nat.and_two_pow_sub_one_eq_mod a 8
  show IntKind.i64.wrap ((BitVec.ofInt 64 (a : Int) &&& BitVec.ofInt 64 (255 : Int)).toNat : Int) = _
  rw [BitVec.toNat_and, e1, e2, e3, IntKind.wrap_i64]
  omega

theorem next_any (c : Int) (h0 : 0 ≤ c) (h1 : c < 1099511627776) (w : World) : Calls Tryz.prog 100 #[.int .i64 c] w fun e w' => e = .returned (.int .i64 (nx c)) ∧ w' = w := by
  have ha := and255 h0 h1
  by_cases h : c % 256 = 126
  · have hb : (bits BinOp.and IntKind.i64 c 255 == 126) = true := by rw [ha, beq_iff_eq]; exact h
    go_enter Tryz.func100, Tryz.ntmps100
    go_wp2
    go_ret
    refine ⟨ret_int ?_, rfl⟩
    rw [nx, if_pos h]
    omega
  · have hb : (bits BinOp.and IntKind.i64 c 255 == 126) = false := by rw [ha, beq_eq_false_iff_ne]; exact h
    go_enter Tryz.func100, Tryz.ntmps100
    go_wp2
    go_ret
    refine ⟨ret_int ?_, rfl⟩
    rw [nx, if_neg h]
end Go.Proofs.YtipigfgnpfhdbaaGreatDoor.E
namespace Go.Proofs.YtipigfgnpfhdbaaGreatDoor.E
open Go.RowKit U
set_option linter.unusedVariables false

/-- The cells of the run that is told. -/
def fc (S : Nat → ByteArray) : Option Nat → Array Value
  | none => #[.int .i64 0, .string ⟨#[]⟩, .bool false]
  | some k => rc S k
theorem fc_is (S : Nat → ByteArray) (o : Option Nat) : ∃ f T b, fc S o = #[.int .i64 f, .string T, .bool b] := by
  cases o with
  | none => exact ⟨_, _, _, rfl⟩
  | some k => exact ⟨_, _, _, rfl⟩

theorem index_at (S : Nat → ByteArray) {k : Nat} (hk : k < 10) (w : World) : (Instr.index 87 (.agg (rcs S)) (.int .i64 k)).run Tryz.prog w = .ok (.agg #[.int .i64 (fst k), .string (S k), .bool (alt k)]) w := by
  have h := rcs_at S k hk
  have h2 : (0 : Int) ≤ k ∧ (k : Int) < 10 := by omega
  have h3 : k * 3 + 3 = 3 + k * 3 := by omega
  unfold Instr.index part
  simp [go_sem, Tryz.isAgg86, Tryz.sizeOf86, Result.andThen, h2, h, rc]
  omega

/-- A row of three cells that is written over cell by cell. -/
theorem three_set {w : World} {g : Nat} {a b c x y z : Value} {t : TypeId} (h : w.heap[g]? = some (.cells #[a, b, c] t (0, 0))) :
    (((w.setCell ⟨g, 0, none⟩ x).setCell ⟨g, 1, none⟩ y).setCell ⟨g, 2, none⟩ z).heap[g]? = some (.cells #[x, y, z] t (0, 0)) := by
  simp [World.setCell, Array.getElem?_modify, h]
theorem three_cells {w : World} {g : Nat} {a b c : Value} {t : TypeId} (h : w.heap[g]? = some (.cells #[a, b, c] t (0, 0))) :
    w.cell? ⟨g, 0, none⟩ = some a ∧ w.cell? ⟨g, 1, none⟩ = some b ∧ w.cell? ⟨g, 2, none⟩ = some c := by
  simp [World.cell?, h]
theorem three_free {w : World} {g : Nat} {a b c : Value} {t : TypeId} (h : w.heap[g]? = some (.cells #[a, b, c] t (0, 0))) :
    w.frozen? ⟨g, 0, none⟩ = false ∧ w.frozen? ⟨g, 1, none⟩ = false ∧ w.frozen? ⟨g, 2, none⟩ = false := by
  simp [World.frozen?, h]

def RelF (S : Nat → ByteArray) (n : Int) (w : World) (i : Value) (wr : World) : Prop :=
  ∃ k : Nat, k ≤ 10 ∧ i = .int .i64 k ∧ wr.heap[w.heap.size]? = some (.cells (fc S (best n k)) 86 (0, 0)) ∧ Bel w wr

set_option maxRecDepth 100000 in
set_option maxHeartbeats 2000000 in
theorem runFor_is (n : Int) (w : World) : Calls Tryz.prog 95 #[.int .i64 n] w fun e w' => e = .returned (.agg (fc (strAt Tryz.f60) (best n 10))) ∧ Bel w w' := by
  have HR := Lib.hid runs_is
  have HI := Lib.hid (fun k (hk : k < 10) w => index_at (strAt Tryz.f60) hk w)
  generalize strAt Tryz.f60 = S at HR HI ⊢
  generalize rcs S = V at HR HI
  go_enter Tryz.func95, Tryz.ntmps95
  go_wp2_with (go_at_call 60; refine (HR.out _).mono ?_; rintro e w2 ⟨rfl, hb⟩)
  have hg0 : w2.heap[w.heap.size]? = some (.cells (fc S (best n 0)) 86 (0, 0)) := (Below.block hb _ (by simp)).trans (heap_alloc_last w _)
  have hb0 : Bel w w2 := ((Bel.refl w).alloc _).trans hb
  have HG0 := Lib.hid hg0
  have HB0 := Lib.hid hb0
  clear hg0 hb0 hb
  go_loopw [6] (fun i wr => RelF S n w i wr) (fun i _ => 10 - (intOf i).toNat)
  case atStart => exact ⟨0, by omega, rfl, HG0.out, HB0.out⟩
  case round =>
    obtain ⟨k, hk, rfl, hg, hB⟩ := hrel
    have HB := Lib.hid hB
    have HG := Lib.hid hg
    have hlt : w.heap.size < wr.heap.size := (Array.getElem?_eq_some_iff.1 hg).1
    clear hB hg
    by_cases hlk : k < 10
    · have hix := fun w => HI.out k hlk w
      have HS := Lib.hid (show rc S k = #[.int .i64 (fst k), .string (S k), .bool (alt k)] from rfl)
      have HN := Lib.hid (show best n (k + 1) = if fst k ≤ n then some k else best n k from rfl)
      obtain ⟨f0, T0, b0, hf0⟩ := fc_is S (best n k)
      have hg := HG.out
      rw [hf0] at hg
      obtain ⟨c0, c1, c2⟩ := three_cells hg
      obtain ⟨z0, z1, z2⟩ := three_free hg
      have H3 := Lib.hid hg
      replace hf0 := Lib.hid hf0
      clear hg
      generalize fst k = f at hix HS HN
      generalize S k = T at hix HS
      generalize alt k = b at hix HS
      by_cases hle : f ≤ n
      · go_wp2
        refine ⟨⟨k + 1, by omega, rfl, ?_, ?_⟩, by simp [intOf]; omega⟩
        · rw [HN.out, if_pos hle]
          show _ = some (Obj.cells (rc S k) 86 (0, 0))
          rw [HS.out]
          refine (Lib.alloc_old _ _ _ ?_).trans (three_set H3.out)
          simpa using hlt
        · refine Bel.alloc ?_ _
          exact ((Below.setCell HB.out (p := ⟨w.heap.size, 0, none⟩) (by simp) _).setCell (p := ⟨w.heap.size, 1, none⟩) (by simp) _).setCell (p := ⟨w.heap.size, 2, none⟩) (by simp) _
      · go_wp2
        refine ⟨⟨k + 1, by omega, rfl, ?_, HB.out.alloc _⟩, by simp [intOf]; omega⟩
        rw [HN.out, if_neg hle]
        exact (Lib.alloc_old _ _ _ hlt).trans HG.out
    · obtain rfl : k = 10 := by omega
      obtain ⟨f0, T0, b0, hf0⟩ := fc_is S (best n 10)
      have hg := HG.out
      rw [hf0] at hg
      obtain ⟨c0, c1, c2⟩ := three_cells hg
      obtain ⟨z0, z1, z2⟩ := three_free hg
      have H3 := Lib.hid hg
      replace hf0 := Lib.hid hf0
      clear hg
      go_wp2
      refine bodyPost_ret (v := .agg #[.int .i64 f0, .string T0, .bool b0]) ?_ rfl ⟨by rw [hf0.out], ?_⟩
      · exact results_cell_row rfl _ _ w.heap.size 86 _ (0, 0) _ rfl (three_set H3.out) Tryz.underlying86 rfl (by kernel_rfl)
      · exact ((Below.setCell HB.out (p := ⟨w.heap.size, 0, none⟩) (by simp) _).setCell (p := ⟨w.heap.size, 1, none⟩) (by simp) _).setCell (p := ⟨w.heap.size, 2, none⟩) (by simp) _
end Go.Proofs.YtipigfgnpfhdbaaGreatDoor.E
namespace Go.Proofs.YtipigfgnpfhdbaaGreatDoor.E
open Go.RowKit Go.Shelf U
set_option linter.unusedVariables false

/-- A string's iterators stand as they stood. -/
def KeptI (W W' : World) : Prop := W.heap.size ≤ W'.heap.size ∧ ∀ (j : Nat) (s : ByteArray) (p : Nat), W.heap[j]? = some (.stringIter s p) → W'.heap[j]? = some (.stringIter s p)

theorem nx_range {c : Int} {p q : Nat} (h0 : 0 ≤ c) (h1 : c ≤ 16777216 + 163 * (p : Int)) (hq : p + 1 ≤ q) : 0 ≤ nx c ∧ nx c ≤ 16777216 + 163 * (q : Int) := by
  unfold nx
  split <;> omega

def RelI (J : List (Int × Int) → World → Prop) (tb : List (Int × Int)) (T : ByteArray) (G : Nat) (i : Value) (wr : World) : Prop :=
  ∃ (pre : List (Int × Int)) (pos fuel : Nat) (c : Int), i = .int .i64 c ∧ 0 ≤ c ∧ c ≤ 16777216 + 163 * (pos : Int) ∧ J pre wr ∧ wr.heap[G]? = some (.stringIter T pos) ∧ tb = pre ++ codesOf c (decs T fuel pos) ∧ T.size ≤ pos + fuel

set_option maxRecDepth 100000 in
set_option maxHeartbeats 2000000 in
theorem codes_in (n l : Nat) (h1 : 1 ≤ n) (f : Int) (T : ByteArray) (b : Bool) (hf : 0 ≤ f ∧ f ≤ 16777216) (hT : T.size < 1000) (tb : List (Int × Int)) (htb : tb = codesOf f (decs T T.size 0)) (Bz : Nat) (J Jx : List (Int × Int) → World → Prop)
    (hJa : ∀ pre W o, J pre W → J pre (W.alloc o))
    (hJi : ∀ pre W G s p p', J pre W → Bz ≤ G → W.heap[G]? = some (.stringIter s p) → J pre (W.iterAt G s p'))
    (hY : ∀ pre x W, J pre W → (∃ rest, tb = pre ++ x :: rest) → YieldAt Fence.wide (n - 1) Tryz.prog l #[.int .i64 x.1, .int .i32 x.2] W fun e W' =>
      (e = .returned (.bool true) ∧ J (pre ++ [x]) W' ∧ KeptI W W') ∨ (e = .returned (.bool false) ∧ Jx (pre ++ [x]) W'))
    (W : World) (hl : l < W.heap.size) (hB : Bz ≤ W.heap.size) (h0 : J [] W) :
    CallsIn Fence.wide n Tryz.prog 61 #[.agg #[.int .i64 f, .string T, .bool b], .func (.yield l) #[] #[]] W fun e W' => (∃ v, e = .returned v) ∧ (J tb W' ∨ ∃ pre, Jx pre W') := by
  have HT := Lib.hid hT
  have HF := Lib.hid hf
  have HTB := Lib.hid htb
  have HJI := Lib.hid hJi
  have HY := Lib.hid hY
  have H2 := Lib.hid (hJa _ _ (.stringIter T 0) (hJa _ _ (.cells #[.int .i64 f, .string T, .bool b] 86) h0))
  have HG := Lib.hid (show Bz ≤ W.heap.size + 1 by omega)
  have HI := Lib.hid (show ((W.alloc (.cells #[.int .i64 f, .string T, .bool b] 86)).alloc (.stringIter T 0)).heap[W.heap.size + 1]? = some (.stringIter T 0) by
    have := heap_alloc_last (W.alloc (.cells #[.int .i64 f, .string T, .bool b] 86)) (.stringIter T 0)
    rwa [World.size_alloc] at this)
  clear hT hf htb hJi hY hJa hB h0 hl
  refine callsIn_of_wp Tryz.func61 rfl trivial ?_ rfl
  simp only [Tryz.ntmps61, List.size_toArray, List.length_cons, List.length_nil, Nat.reduceAdd, Nat.reduceSub, Array.replicate_succ, Array.replicate_zero, List.push_toArray, List.append_toArray, List.nil_append, List.cons_append]
  gi_wp2_with fail
  have H3 := Lib.hid (show RelI J tb T (W.heap.size + 1) (.int .i64 f) ((W.alloc (.cells #[.int .i64 f, .string T, .bool b] 86)).alloc (.stringIter T 0)) from
    ⟨[], 0, T.size, f, rfl, HF.out.1, by have := HF.out.2; omega, H2.out, HI.out, by rw [List.nil_append]; exact HTB.out, by omega⟩)
  clear H2 HI HTB HF
  generalize hGb : W.heap.size + 1 = G at HG H3 ⊢
  gi_loopw [4] (fun i wr => RelI J tb T G i wr) (fun _ wr => T.size - wr.iterPos G)
  case atStart => exact H3.out
  case round =>
    obtain ⟨pre, pos, fuel, c, rfl, c0, c1, hJ, hit, htb, hfu⟩ := hrel
    have HJ := Lib.hid hJ
    have HIT := Lib.hid hit
    have HC := Lib.hid (And.intro c0 c1)
    have HTB := Lib.hid htb
    have HFU := Lib.hid hfu
    clear hJ c0 c1 htb hfu
    by_cases hp : pos < T.size
    · obtain ⟨F, hF⟩ : ∃ F, fuel = F + 1 := ⟨fuel - 1, by have := HFU.out; omega⟩
      obtain ⟨r, wd, hd⟩ : ∃ r wd, Utf8.decode T pos = (r, wd) := ⟨_, _, rfl⟩
      have hwd : 1 ≤ wd := by have := width_pos T pos hp; rw [hd] at this; exact this
      have hds : codesOf c (decs T fuel pos) = (c, (r : Int)) :: codesOf (nx c) (decs T F (pos + wd)) := by
        rw [hF, decs_at hp, hd]
        rfl
      have hnx : ∀ ty, (Instr.next (.pointer (some ⟨G, 0, none⟩)) true ty).run Tryz.prog wr = .ok (.tuple #[.bool true, .int .i64 pos, .int .i32 r]) (wr.iterAt G T (pos + wd)) := fun ty => by
        have := Lib.run_next_any_at (P := Tryz.prog) wr G T pos ty hit hp
        rwa [hd] at this
      have HJ2 := Lib.hid (HJI.out _ _ G T pos (pos + wd) HJ.out HG.out hit)
      have HI2 := Lib.hid (Lib.iterAt_heap wr G T pos (pos + wd) hit)
      have HTB2 := Lib.hid (show tb = (pre ++ [(c, (r : Int))]) ++ codesOf (nx c) (decs T F (pos + wd)) by rw [HTB.out, hds]; simp)
      have HNR := Lib.hid (nx_range (q := pos + wd) HC.out.1 HC.out.2 (by omega))
      have HM := Lib.hid (show T.size - (pos + wd) < T.size - wr.iterPos G by rw [show wr.iterPos G = pos by simp [World.iterPos, hit]]; omega)
      have HFU2 := Lib.hid (show T.size ≤ pos + wd + F by have := HFU.out; omega)
      have HNC := Lib.hid (fun w => next_any c HC.out.1 (by have := HC.out.2; have := HT.out; omega) w)
      obtain ⟨fn, tmps, assign, body, hy, hR⟩ := HY.out pre (c, (r : Int)) _ HJ2.out ⟨_, by rw [HTB.out, hds]⟩
      dsimp only at hy
      have HRo := Lib.hid hR
      clear hR hd hds hwd hp hF
      generalize wr.iterAt G T (pos + wd) = w2 at hnx hy HJ2 HI2 HRo
      gi_wp2_with fail
      refine HRo.out.mono ?_
      rintro e w3 (⟨rfl, hJ3, hk3⟩ | ⟨rfl, hJx3⟩)
      · have HJ3 := Lib.hid hJ3
        have HI3 := Lib.hid (hk3.2 _ _ _ HI2.out)
        clear hJ3 hk3 hy hnx hit
        gi_wp2_with fail
        refine ⟨trivial, ?_⟩
        gi_at_call 100
        refine (callsIn_wide.2 (HNC.out _)).mono ?_
        rintro e w4 ⟨rfl, rfl⟩
        gi_wp2_with fail
        refine ⟨⟨pre ++ [(c, (r : Int))], pos + wd, F, nx c, rfl, HNR.out.1, HNR.out.2, HJ3.out, HI3.out, HTB2.out, HFU2.out⟩, ?_⟩
        have h5 : w4.iterPos G = pos + wd := by simp [World.iterPos, HI3.out]
        rw [h5]
        exact HM.out
      · have HJ4 := Lib.hid hJx3
        clear hJx3 hy hnx hit
        gi_wp2_with fail
        refine bodyPost_ret (results_none rfl _ _ _) rfl ?_
        exact ⟨⟨_, rfl⟩, .inr ⟨_, HJ4.out⟩⟩
    · have hnx : ∀ ty, (Instr.next (.pointer (some ⟨G, 0, none⟩)) true ty).run Tryz.prog wr = _ := fun ty => Lib.run_next_end_at wr G T pos ty hit hp
      have HJ5 := Lib.hid (show J tb wr by
        have h := HTB.out
        rw [decs_end T fuel pos hp] at h
        simp only [codesOf, List.append_nil] at h
        rw [h]
        exact HJ.out)
      gi_wp2_with fail
      go_end0
      exact ⟨⟨_, rfl⟩, .inl HJ5.out⟩
end Go.Proofs.YtipigfgnpfhdbaaGreatDoor.E
namespace Go.Proofs.YtipigfgnpfhdbaaGreatDoor.E
open Go.RowKit Go.Shelf U
set_option linter.unusedVariables false

/-- How a round may be left: it goes on, or it returns; what is no row of cells lies as it lay. -/
def endsR (I : List (Int × Int) → World → Prop) (Ix : World → Prop) (pre : List (Int × Int)) (W : World) : Exit → Act → World → Prop
  | .normal, _, W' => KeepsOthers W W' ∧ I pre W'
  | .ret, _, W' => KeepsOthers W W' ∧ Ix W'
  | _, _, _ => False

theorem range_codes (tb : List (Int × Int)) {P : Program} {m gf : Nat} {g : Operand} {ps : Array Tmp} {assign body : Code} {Q : Exit → Act → World → Prop} {a : Act} {Wz : World} {pb : Array Value}
    (h1 : 1 ≤ m) (hg : a.eval g = .func (.func gf) pb #[]) (eg : ∀ args w, (callFunc gf args).run P w = .ok (.enter gf args) w) (hps : ps.size = 2)
    (I : List (Int × Int) → World → Prop) (Ix : World → Prop)
    (hIp : ∀ pre W o L, I pre W → W.heap[Wz.heap.size + 1]? = some (.loop L) → I pre (W.putObj (Wz.heap.size + 1) o)) (hXp : ∀ W o L, Ix W → W.heap[Wz.heap.size + 1]? = some (.loop L) → Ix (W.putObj (Wz.heap.size + 1) o))
    (hIa : ∀ pre W o, I pre W → I pre (W.alloc o))
    (hIi : ∀ pre W G s p p', I pre W → Wz.heap.size + 2 ≤ G → W.heap[G]? = some (.stringIter s p) → I pre (W.iterAt G s p'))
    (h0 : I [] Wz) (a₁ : Int × Int → Act)
    (hassign : ∀ (l : Nat) (x : Int × Int) (W : World) (K : Act → World → Prop), K (a₁ x) W →
      assign.wpIn (Fence.wide.inRound l) (m - 1 - 1) P (Exit.then K (fun _ _ _ => False)) { tmps := (ps.zip #[.int .i64 x.1, .int .i32 x.2]).foldl (fun t (p, v) => t.setIfInBounds p v) a.tmps, defers := [] } W)
    (hbody : ∀ (l : Nat) (pre : List (Int × Int)) (x : Int × Int) (W : World), I pre W → (∃ rest, tb = pre ++ x :: rest) → body.wpIn (Fence.wide.inRound l) (m - 1 - 1) P (endsR I Ix (pre ++ [x]) W) (a₁ x) W)
    (hit : ∀ (J Jx : List (Int × Int) → World → Prop), (∀ pre W o, J pre W → J pre (W.alloc o)) →
      (∀ pre W G s p p', J pre W → Wz.heap.size + 2 ≤ G → W.heap[G]? = some (.stringIter s p) → J pre (W.iterAt G s p')) →
      (∀ pre x W, J pre W → (∃ rest, tb = pre ++ x :: rest) → YieldAt Fence.wide (m - 1 - 1) P (Wz.heap.size + 1) #[.int .i64 x.1, .int .i32 x.2] W fun e W' =>
        (e = .returned (.bool true) ∧ J (pre ++ [x]) W' ∧ KeptI W W') ∨ (e = .returned (.bool false) ∧ Jx (pre ++ [x]) W')) →
      ∀ W, Wz.heap.size + 1 < W.heap.size → J [] W →
      CallsIn Fence.wide (m - 1) P gf (pb ++ #[.func (.yield (Wz.heap.size + 1)) #[] #[]]) W fun e W' => (∃ v, e = .returned v) ∧ (J tb W' ∨ ∃ pre, Jx pre W'))
    (hdone : ∀ W, I tb W → W.heap[Wz.heap.size]? = some (.deferred (some [])) → Q .normal { a with defers := { target := .collected Wz.heap.size, args := #[] } :: a.defers } W)
    (hstop : ∀ W, Ix W → W.heap[Wz.heap.size]? = some (.deferred (some [])) → Code.ret.wpIn Fence.wide m P Q { a with defers := { target := .collected Wz.heap.size, args := #[] } :: a.defers } W) :
    (Code.rangeFunc g ps assign body).wpIn Fence.wide m P Q a Wz := by
  refine wpIn_rangeFunc fun fn _ => ?_
  let rc : LoopState → Option Code → Loop := fun st pe => { state := st, pending := pe, fn, tmps := a.tmps, params := ps, assign, body, defers := Wz.heap.size }
  let W1 : World := (Wz.alloc (.deferred (some []))).alloc (.loop (rc .ready none))
  have hsz : (Wz.alloc (.deferred (some []))).heap.size = Wz.heap.size + 1 := World.size_alloc _ _
  have hl1 : W1.heap[Wz.heap.size + 1]? = some (.loop (rc .ready none)) := by
    have h := World.alloc_heap_new (Wz.alloc (.deferred (some []))) (.loop (rc .ready none))
    rwa [hsz] at h
  have hd1 : W1.heap[Wz.heap.size]? = some (.deferred (some [])) :=
    (Below.block ((Bel.refl (Wz.alloc (.deferred (some [])))).alloc (.loop (rc .ready none))) _ (by rw [hsz]; omega)).trans (World.alloc_heap_new Wz _)
  have put_d : ∀ (W : World) (o : Obj), W.heap[Wz.heap.size]? = some (.deferred (some [])) → (W.putObj (Wz.heap.size + 1) o).heap[Wz.heap.size]? = some (.deferred (some [])) := fun W o h => (World.putObj_heap_other (by omega)).trans h
  refine ⟨Wz.heap.size + 1, [{ target := .collected Wz.heap.size, args := #[] }], W1, { target := .fn (.func gf) #[], args := pb ++ #[.func (.yield (Wz.heap.size + 1)) #[] #[]] }, W1, gf, pb ++ #[.func (.yield (Wz.heap.size + 1)) #[] #[]], W1, ?_, ?_, fun _ _ => trivial, ?_, fun _ => h1, ?_⟩
  · exact run_enterLoop_outer fn a.tmps ps assign body
  · simp only [resolve, hg]
    simp [go_sem]
  · simp [invoke, go_sem, eg]
  refine (hit (fun pre W => I pre W ∧ W.heap[Wz.heap.size + 1]? = some (.loop (rc .ready none)) ∧ W.heap[Wz.heap.size]? = some (.deferred (some [])))
    (fun _ W => Ix W ∧ W.heap[Wz.heap.size + 1]? = some (.loop (rc .done (some .ret))) ∧ W.heap[Wz.heap.size]? = some (.deferred (some [])))
    (fun pre W o h => ⟨hIa _ _ _ h.1, (Lib.alloc_old W o _ (Array.getElem?_eq_some_iff.1 h.2.1).1).trans h.2.1, (Lib.alloc_old W o _ (Array.getElem?_eq_some_iff.1 h.2.2).1).trans h.2.2⟩)
    (fun pre W G s p p' h hG hs => ⟨hIi _ _ _ _ _ _ h.1 hG hs, (Lib.iterAt_other W G _ s p' (by omega)).trans h.2.1, (Lib.iterAt_other W G _ s p' (by omega)).trans h.2.2⟩)
    ?_ W1 (Array.getElem?_eq_some_iff.1 hl1).1 ⟨hIa _ _ _ (hIa _ _ _ h0), hl1, hd1⟩).mono ?_
  · rintro pre x W ⟨hi, hl, hd⟩ hx
    have hlt : Wz.heap.size + 1 < W.heap.size := (Array.getElem?_eq_some_iff.1 hl).1
    refine ⟨fn, _, assign, body, run_yield hl hps.symm, roundIn_of_wpIn trivial (hassign _ x W _ ⟨_, run_beginRound hl rfl, ?_⟩)⟩
    have hl2 : (W.putObj (Wz.heap.size + 1) (.loop { rc .ready none with state := .busy })).heap[Wz.heap.size + 1]? = some (.loop { rc .ready none with state := .busy }) := World.putObj_heap_same hlt
    have hd2 := put_d W (.loop { rc .ready none with state := .busy }) hd
    refine wpIn_mono (hbody _ pre x _ (hIp _ _ _ _ hi hl) hx) ?_
    rintro e a3 W3 hp
    cases e with
    | normal =>
      obtain ⟨hk, hi3⟩ := hp
      have hl3 := hk.same _ _ hl2 rfl
      have hd3 := hk.same _ _ hd2 rfl
      have hlt3 : Wz.heap.size + 1 < W3.heap.size := (Array.getElem?_eq_some_iff.1 hl3).1
      refine ⟨_, _, run_endRound none hl3, .inl ⟨rfl, ⟨hIp _ _ _ _ hi3 hl3, World.putObj_heap_same hlt3, put_d _ _ hd3⟩, ?_, ?_⟩⟩
      · have h := hk.size
        rw [World.putObj_size] at h ⊢
        exact h
      · intro j s p hj
        have hjl : j ≠ Wz.heap.size + 1 := fun e => by rw [e, hl] at hj; cases hj
        exact (World.putObj_heap_other hjl).trans (hk.same _ _ ((World.putObj_heap_other hjl).trans hj) rfl)
    | ret =>
      obtain ⟨hk, hx3⟩ := hp
      have hl3 := hk.same _ _ hl2 rfl
      have hd3 := hk.same _ _ hd2 rfl
      exact ⟨_, _, run_endRound (some .ret) hl3, .inr ⟨rfl, hXp _ _ _ hx3 hl3, World.putObj_heap_same (Array.getElem?_eq_some_iff.1 hl3).1, put_d _ _ hd3⟩⟩
    | exit id => exact hp.elim
    | goto t => exact hp.elim
    | panic ch => exact hp.elim
    | outgrown => exact hp.elim
  · rintro e W2 ⟨⟨v, rfl⟩, (⟨hi, hl, hd⟩ | ⟨pre, hi, hl, hd⟩)⟩
    · exact ⟨none, _, run_endLoop hl (by simp [rc]), hdone _ (hIp _ _ _ _ hi hl) (put_d _ _ hd)⟩
    · exact ⟨some .ret, _, run_endLoop hl (by simp [rc]), hstop _ (hXp _ _ _ hi hl) (put_d _ _ hd)⟩
end Go.Proofs.YtipigfgnpfhdbaaGreatDoor.E
namespace Go.Proofs.YtipigfgnpfhdbaaGreatDoor.E
open Go.RowKit Go.Shelf U
set_option linter.unusedVariables false
attribute [local go_sem] Oper.semAt_some

theorem bel_put {w W : World} {l : Nat} (h : Bel w W) (hl : w.heap.size ≤ l) (o : Obj) : Bel w (W.putObj l o) :=
  ⟨h.os, h.tape, h.output, by rw [World.putObj_size]; exact h.size, fun j hj => (World.putObj_heap_other (by omega)).trans (h.block j hj)⟩
theorem boxed_put {W : World} {B t l : Nat} {v : Value} (h : Boxed W B t v) (hl : B ≠ l) (o : Obj) : Boxed (W.putObj l o) B t v := (World.putObj_heap_other hl).trans h
theorem boxed_bel {W W' : World} {B t : Nat} {v : Value} (h : Boxed W B t v) (hb : Bel W W') : Boxed W' B t v := (hb.block B h.lt).trans h
theorem boxed_iter {W : World} {B t G : Nat} {v : Value} (h : Boxed W B t v) (hg : B ≠ G) (s : ByteArray) (p : Nat) : Boxed (W.iterAt G s p) B t v := (Lib.iterAt_other W G B s p hg).trans h

/-- What runFor tells is a run of the chapter's, or none. -/
theorem fc_good (o : Option Nat) (ho : ∀ k, o = some k → k < 10) : ∃ f T b, fc (strAt Tryz.f60) o = #[.int .i64 f, .string T, .bool b] ∧ tabO o = codesOf f (decs T T.size 0) ∧ (0 ≤ f ∧ f ≤ 16777216) ∧ T.size < 1000 := by
  cases o with
  | none => exact ⟨0, ⟨#[]⟩, false, rfl, rfl, by omega, by decide⟩
  | some k =>
    have hk := ho k rfl
    exact ⟨fst k, strAt Tryz.f60 k, alt k, rfl, by rw [(good hk).1]; rfl, fst_range k hk, (good hk).2⟩

/-- Between two rounds. -/
def Inv (n : Int) (B : Nat) (w : World) (pre : List (Int × Int)) (W : World) : Prop :=
  (∀ p ∈ pre, p.1 ≠ n) ∧ Boxed W B 3 (.int .i64 n) ∧ Boxed W (B + 1) 21 (.int .i32 0) ∧ Boxed W (B + 2) 4 (.bool false) ∧ Bel w W
/-- A round has found it. -/
def Fnd (tb : List (Int × Int)) (n : Int) (B : Nat) (w : World) (W : World) : Prop :=
  ∃ r, look tb n = (r, true) ∧ Boxed W (B + 1) 21 (.int .i32 r) ∧ Boxed W (B + 2) 4 (.bool true) ∧ Bel w W

theorem Inv.put {n : Int} {B l : Nat} {w W : World} {pre : List (Int × Int)} (h : Inv n B w pre W) (h1 : B + 2 < l) (h2 : w.heap.size ≤ l) (o : Obj) : Inv n B w pre (W.putObj l o) :=
  ⟨h.1, boxed_put h.2.1 (by omega) o, boxed_put h.2.2.1 (by omega) o, boxed_put h.2.2.2.1 (by omega) o, bel_put h.2.2.2.2 h2 o⟩
theorem Inv.bel {n : Int} {B : Nat} {w W W' : World} {pre : List (Int × Int)} (h : Inv n B w pre W) (hb : Bel W W') : Inv n B w pre W' :=
  ⟨h.1, boxed_bel h.2.1 hb, boxed_bel h.2.2.1 hb, boxed_bel h.2.2.2.1 hb, h.2.2.2.2.trans hb⟩
theorem Inv.iter {n : Int} {B G : Nat} {w W : World} {pre : List (Int × Int)} (h : Inv n B w pre W) (h1 : B + 2 < G) (h2 : w.heap.size ≤ G) (s : ByteArray) (p : Nat) : Inv n B w pre (W.iterAt G s p) :=
  ⟨h.1, boxed_iter h.2.1 (by omega) s p, boxed_iter h.2.2.1 (by omega) s p, boxed_iter h.2.2.2.1 (by omega) s p, Lib.below_iterAt h.2.2.2.2 h2 s p⟩
theorem Fnd.put {tb : List (Int × Int)} {n : Int} {B l : Nat} {w W : World} (h : Fnd tb n B w W) (h1 : B + 2 < l) (h2 : w.heap.size ≤ l) (o : Obj) : Fnd tb n B w (W.putObj l o) := by
  obtain ⟨r, h0, h3, h4, h5⟩ := h
  exact ⟨r, h0, boxed_put h3 (by omega) o, boxed_put h4 (by omega) o, bel_put h5 h2 o⟩

set_option maxRecDepth 100000 in
set_option maxHeartbeats 2000000 in
theorem rune_is (n : Int) (w : World) : Calls Tryz.prog 57 #[.int .i64 n] w fun e w' => e = .returned (.tuple #[.int .i32 (runeL n).1, .bool (runeL n).2]) ∧ Bel w w' := by
  obtain ⟨f, T, b, hfc, htb, hf, hT⟩ := fc_good (best n 10) (fun k h => best_lt h)
  have HR := Lib.hid (fun w => by have := runFor_is n w; rw [hfc] at this; exact this : ∀ w, Calls Tryz.prog 95 #[.int .i64 n] w fun e w' => e = .returned (.agg #[.int .i64 f, .string T, .bool b]) ∧ Bel w w')
  unfold runeL
  generalize tabO (best n 10) = tb at htb ⊢
  have HTB := Lib.hid htb
  have HF := Lib.hid hf
  have HTS := Lib.hid hT
  clear hfc htb hf hT
  refine (callsIn_wide (n := 4)).1 ?_
  refine callsIn_of_wp_marks Tryz.func57 rfl trivial ?_ rfl
  simp only [Tryz.ntmps57, List.size_toArray, List.length_cons, List.length_nil, Nat.reduceAdd, Nat.reduceSub, Array.replicate_succ, Array.replicate_zero, List.push_toArray, List.append_toArray, List.nil_append, List.cons_append]
  gi_wp2_with fail
  refine ⟨trivial, ?_⟩
  gi_at_call 95
  refine (callsIn_wide.2 (HR.out _)).mono ?_
  rintro e Wz ⟨rfl, hb2⟩
  have b1 : Boxed (((w.alloc (.cells #[.int .i64 n] 3)).alloc (.cells #[.int .i32 0] 21)).alloc (.cells #[.bool false] 4)) w.heap.size 3 (.int .i64 n) := ((Boxed.new w 3 _).alloc _).alloc _
  have b2 : Boxed (((w.alloc (.cells #[.int .i64 n] 3)).alloc (.cells #[.int .i32 0] 21)).alloc (.cells #[.bool false] 4)) (w.heap.size + 1) 21 (.int .i32 0) := by
    have h := (Boxed.new (w.alloc (.cells #[.int .i64 n] 3)) 21 (.int .i32 0)).alloc (.cells #[.bool false] 4)
    rwa [World.size_alloc] at h
  have b3 : Boxed (((w.alloc (.cells #[.int .i64 n] 3)).alloc (.cells #[.int .i32 0] 21)).alloc (.cells #[.bool false] 4)) (w.heap.size + 2) 4 (.bool false) := by
    have h := Boxed.new ((w.alloc (.cells #[.int .i64 n] 3)).alloc (.cells #[.int .i32 0] 21)) 4 (.bool false)
    rwa [World.size_alloc, World.size_alloc] at h
  have hB : Bel w (((w.alloc (.cells #[.int .i64 n] 3)).alloc (.cells #[.int .i32 0] 21)).alloc (.cells #[.bool false] 4)) := (((Bel.refl w).alloc _).alloc _).alloc _
  have hz : w.heap.size + 3 ≤ Wz.heap.size := by
    have h := Below.size hb2
    simpa using h
  have HI0 := Lib.hid (⟨by simp, boxed_bel b1 hb2, boxed_bel b2 hb2, boxed_bel b3 hb2, hB.trans hb2⟩ : Inv n w.heap.size w [] Wz)
  have HZ := Lib.hid hz
  clear b1 b2 b3 hB hz hb2
  gi_wp2_with fail
  have eq2 : w.heap.size + 2 = w.heap.size + 1 + 1 := rfl
  refine range_codes tb (by decide) rfl (enters_of Tryz.func61 (by kernel_rfl) rfl) rfl (Inv n w.heap.size w) (Fnd tb n w.heap.size w)
    (fun pre W o L h _ => h.put (by have := HZ.out; omega) (by have := HZ.out; omega) o) (fun W o L h _ => h.put (by have := HZ.out; omega) (by have := HZ.out; omega) o) (fun pre W o h => h.bel ((Bel.refl W).alloc o))
    (fun pre W G s p p' h hG hs => h.iter (by have := HZ.out; omega) (by have := HZ.out; omega) s p') HI0.out
    (fun x => { tmps := #[.int .i64 n, .pointer (some ⟨w.heap.size, 0, none⟩), .pointer (some ⟨w.heap.size + 1, 0, none⟩), .pointer (some ⟨w.heap.size + 1 + 1, 0, none⟩), .int .i64 x.1, .int .i32 x.2, .int .i64 n, .agg #[.int .i64 f, .string T, .bool b], .func (.func 61) #[.agg #[.int .i64 f, .string T, .bool b]] #[], .int .i64 x.1, .int .i32 x.2, undef, undef, undef, undef], defers := [] }) ?assign ?body ?it ?done ?stop
  case assign =>
    intro l x W K hK
    gi_wp2
    exact hK
  case it =>
    intro J Jx hJa hJi hY W hl hj
    exact codes_in 3 _ (by decide) f T b HF.out HTS.out tb HTB.out (Wz.heap.size + 2) J Jx hJa hJi hY W hl (by omega) hj
  case body =>
    rintro l pre x W ⟨hp, c1, c2, c3, hB⟩ hx
    rw [eq2] at c3
    have k1 := c1.cell
    have k2 := c2.cell
    have k3 := c3.cell
    have f2 := c2.frozen
    have f3 := c3.frozen
    have HC2 := Lib.hid c2
    have HC3 := Lib.hid c3
    have HC1 := Lib.hid c1
    have HB := Lib.hid hB
    have HX := Lib.hid hx
    have HP := Lib.hid hp
    clear c1 c2 c3 hB hx hp
    gi_wp2
    · rename_i he
      have he' : x.1 = n := by simpa using he
      obtain ⟨rest, hr⟩ := HX.out
      refine ⟨(KeepsOthers.setCell _ _ _).trans (KeepsOthers.setCell _ _ _), x.2, ?_, ?_, ?_, ?_⟩
      · exact look_hit (rest := rest) (by rw [hr, ← he']) HP.out
      · exact (HC2.out.set _).other (by omega) _
      · exact (HC3.out.other (by omega) _).set _
      · exact (Below.setCell HB.out (p := ⟨w.heap.size + 1, 0, none⟩) (by simp) _).setCell (p := ⟨w.heap.size + 1 + 1, 0, none⟩) (by simp; omega) _
    · rename_i he
      refine ⟨KeepsOthers.refl _, fun p hp => ?_, HC1.out, HC2.out, HC3.out, HB.out⟩
      rcases List.mem_append.1 hp with hp | hp
      · exact HP.out p hp
      · simp at hp
        subst hp
        simpa using he
  case done =>
    rintro W ⟨hp, c1, c2, c3, hB⟩ hK
    rw [eq2] at c3
    have k2 := c2.cell
    have k3 := c3.cell
    have f2 := c2.frozen
    have f3 := c3.frozen
    gi_wp2
    have hK' := ((KeepsOthers.setCell W ⟨w.heap.size + 1, 0, none⟩ (.int .i32 0)).trans (KeepsOthers.setCell _ ⟨w.heap.size + 1 + 1, 0, none⟩ (.bool false))).same _ _ hK rfl
    have d2 := boxed_put ((c2.set (.int .i32 0)).other (B' := w.heap.size + 1 + 1) (by omega) (.bool false)) (l := Wz.heap.size) (by have := HZ.out; omega) (.deferred none)
    have d3 := boxed_put ((c3.other (B' := w.heap.size + 1) (by omega) (.int .i32 0)).set (.bool false)) (l := Wz.heap.size) (by have := HZ.out; omega) (.deferred none)
    have e2 := d2.cell
    have e3 := d3.cell
    refine ⟨by simp, .inl ⟨_, _, rfl, run_takeDeferred hK', ?_⟩⟩
    rw [look_miss hp]
    refine ⟨.tuple #[.int .i32 0, .bool false], ?_, rfl, bel_put ((Below.setCell hB (p := ⟨w.heap.size + 1, 0, none⟩) (by simp) _).setCell (p := ⟨w.heap.size + 1 + 1, 0, none⟩) (by simp; omega) _) (by have := HZ.out; omega) _⟩
    simp [results, Tryz.f57, go_sem, e2, e3]
  case stop =>
    rintro W ⟨r, hr, c2, c3, hB⟩ hK
    rw [eq2] at c3
    have d2 := boxed_put c2 (l := Wz.heap.size) (by have := HZ.out; omega) (.deferred none)
    have d3 := boxed_put c3 (l := Wz.heap.size) (by have := HZ.out; omega) (.deferred none)
    have e2 := d2.cell
    have e3 := d3.cell
    gi_wp2
    refine ⟨by simp, .inl ⟨_, _, rfl, run_takeDeferred hK, ?_⟩⟩
    refine ⟨.tuple #[.int .i32 r, .bool true], ?_, rfl, bel_put hB (by have := HZ.out; omega) _⟩
    simp [results, Tryz.f57, go_sem, e2, e3]
end Go.Proofs.YtipigfgnpfhdbaaGreatDoor.E
namespace Go.Proofs.YtipigfgnpfhdbaaGreatDoor.E
open Go.RowKit Go.Shelf U
set_option linter.unusedVariables false
attribute [local go_sem] Oper.semAt_some

/-- The marks of loops that are through, the newest one first. -/
def Dok (lo : Nat) (W : World) : Nat → List Deferred → Prop
  | _, [] => True
  | hi, d :: ds => ∃ D, d.target = .collected D ∧ lo ≤ D ∧ D < hi ∧ W.heap[D]? = some (.deferred (some [])) ∧ Dok lo W D ds
theorem Dok.mono {lo : Nat} {W W' : World} : ∀ {ds : List Deferred} {hi hi' : Nat}, Dok lo W hi ds → hi ≤ hi' → (∀ D, D < hi → W.heap[D]? = some (.deferred (some [])) → W'.heap[D]? = some (.deferred (some []))) → Dok lo W' hi' ds
  | [], _, _, _, _, _ => trivial
  | d :: ds, hi, hi', ⟨D, h1, h2, h3, h4, h5⟩, hh, hk => ⟨D, h1, h2, by omega, hk D h3 h4, h5.mono (Nat.le_refl _) (fun E hE => hk E (by omega))⟩
theorem leaves_all {F : Fence} {n : Nat} {P : Program} {fn : Func} {tmps : Array Value} {R : Ending → World → Prop} (lo : Nat) (X : World → Prop)
    (hX : ∀ W D o, X W → lo ≤ D → W.heap[D]? = some (.deferred (some [])) → X (W.putObj D o)) (hR : ∀ W, X W → LeavesIn F n P fn tmps R [] .returning W) :
    ∀ (ds : List Deferred) (hi : Nat) (W : World), Dok lo W hi ds → X W → LeavesInM F n P fn tmps R ds .returning W
  | [], _, W, _, hx => hR W hx
  | d :: ds, hi, W, ⟨D, h1, h2, h3, h4, h5⟩, hx => by
    refine ⟨by simp, .inl ⟨D, _, h1, run_takeDeferred h4, leaves_all lo X hX hR ds D _ (h5.mono (Nat.le_refl _) (fun E hE h => ?_)) (hX _ _ _ hx h2 h4)⟩⟩
    exact (World.putObj_heap_other (by omega)).trans h

/-- The list so far. -/
def CI (r : Int) (w : World) (l : List Int) (W : World) : Prop :=
  Boxed W w.heap.size 21 (.int .i32 r) ∧ (∃ v, Boxed W (w.heap.size + 1) 62 v ∧ W.ownsRow w.heap.size 3 1 v l.length (l.map (Value.int .i64))) ∧ Bel w W
theorem own_iter {W : World} {base : Nat} {e : TypeId} {v : Value} {k : Nat} {xs : List Value} (h : W.ownsRow base e 1 v k xs) {G : Nat} {s : ByteArray} {p : Nat} (p' : Nat) (hs : W.heap[G]? = some (.stringIter s p)) : (W.iterAt G s p').ownsRow base e 1 v k xs := by
  refine ⟨h.1, ?_⟩
  rcases h.2 with h | ⟨g, cap, cur, hv, hbg, hg, rest⟩
  · exact .inl h
  · refine .inr ⟨g, cap, cur, hv, hbg, ?_, rest⟩
    rw [Lib.iterAt_other W G g s p' (fun e => by rw [e, hs] at hg; cases hg)]
    exact hg
theorem CI.alloc {r : Int} {w W : World} {l : List Int} (h : CI r w l W) (o : Obj) : CI r w l (W.alloc o) := by
  obtain ⟨h1, ⟨v, h2, h3⟩, h4⟩ := h
  exact ⟨h1.alloc o, ⟨v, h2.alloc o, h3.alloc o⟩, h4.alloc o⟩
theorem CI.put {r : Int} {w W : World} {l : List Int} (h : CI r w l W) {L : Nat} {x : Obj} (o : Obj) (hl : W.heap[L]? = some x) (hx : x.isCells = false) (hw : w.heap.size ≤ L) : CI r w l (W.putObj L o) := by
  obtain ⟨h1, ⟨v, h2, h3⟩, h4⟩ := h
  have n1 : w.heap.size ≠ L := fun e => by rw [← e, show W.heap[w.heap.size]? = _ from h1] at hl; cases hl; cases hx
  have n2 : w.heap.size + 1 ≠ L := fun e => by rw [← e, show W.heap[w.heap.size + 1]? = _ from h2] at hl; cases hl; cases hx
  exact ⟨boxed_put h1 n1 o, ⟨v, boxed_put h2 n2 o, ownsRow_putObj h3 o hl hx⟩, bel_put h4 hw o⟩
theorem CI.iter {r : Int} {w W : World} {l : List Int} (h : CI r w l W) {G : Nat} {s : ByteArray} {p : Nat} (p' : Nat) (hs : W.heap[G]? = some (.stringIter s p)) (hw : w.heap.size ≤ G) : CI r w l (W.iterAt G s p') := by
  obtain ⟨h1, ⟨v, h2, h3⟩, h4⟩ := h
  have n1 : w.heap.size ≠ G := fun e => by rw [← e, show W.heap[w.heap.size]? = _ from h1] at hs; cases hs
  have n2 : w.heap.size + 1 ≠ G := fun e => by rw [← e, show W.heap[w.heap.size + 1]? = _ from h2] at hs; cases hs
  exact ⟨boxed_iter h1 n1 s p', ⟨v, boxed_iter h2 n2 s p', own_iter h3 p' hs⟩, Lib.below_iterAt h4 hw s p'⟩

theorem tab_short : ∀ k, k < 10 → (tab k).length ≤ 200 := by decide +kernel
theorem sel_short (r : Int) (l : List (Int × Int)) : (sel r l).length ≤ l.length := by
  unfold sel
  rw [List.length_map]
  exact List.length_filter_le _ _
theorem codesL_short (r : Int) : ∀ k, k ≤ 10 → (codesL r k).length ≤ 200 * k
  | 0, _ => by simp [codesL]
  | k + 1, h => by
    have h1 := codesL_short r k (by omega)
    have h2 := tab_short k (by omega)
    have h3 := sel_short r (tab k)
    simp only [codesL, List.length_append]
    omega
theorem sel_hit (r : Int) (pre : List (Int × Int)) {x : Int × Int} (h : x.2 = r) : sel r (pre ++ [x]) = sel r pre ++ [x.1] := by simp [sel, h]
theorem sel_miss (r : Int) (pre : List (Int × Int)) {x : Int × Int} (h : ¬ x.2 = r) : sel r (pre ++ [x]) = sel r pre := by simp [sel, h]
theorem int3 : (Tryz.prog.info? 3).map (fun i => (i.zero, i.size, i.bytes)) = some (some (.int .i64 0), 1, 8) := by kernel_rfl

/-- Between two rounds. -/
def IC (r : Int) (w : World) (l : List Int) (hi : Nat) (ds : List Deferred) (pre : List (Int × Int)) (W : World) : Prop := CI r w (l ++ sel r pre) W ∧ Dok w.heap.size W hi ds

/-- Between two runs. -/
def InvC (V : Array Value) (r : Int) (w : World) (a : Act) (W : World) : Prop :=
  ∃ (k : Nat) (ds : List Deferred) (u5 u10 u11 u12 u13 u23 : Value), k ≤ 10 ∧ a = { tmps := #[.int .i32 r, .pointer (some ⟨w.heap.size, 0, none⟩), .slice none 0 0, .pointer (some ⟨w.heap.size + 1, 0, none⟩), undef, u5, undef, undef, .agg V, .int .i64 k, u10, u11, u12, u13, undef, undef, undef, undef, undef, undef, undef, undef, undef, u23, undef], defers := ds } ∧ CI r w (codesL r k) W ∧ Dok w.heap.size W W.heap.size ds

set_option maxRecDepth 100000 in
set_option maxHeartbeats 2000000 in
theorem codes_is (r : Int) (w : World) : Calls Tryz.prog 37 #[.int .i32 r] w fun e w' => ∃ v, e = .returned v ∧ U.Own w' w.heap.size 3 .i64 v (codesL r 10) ∧ Bel w w' := by
  have HR := Lib.hid runs_is
  have HI := Lib.hid (fun k (hk : k < 10) w => index_at (strAt Tryz.f60) hk w)
  have HG := Lib.hid (fun k (hk : k < 10) => good hk)
  generalize strAt Tryz.f60 = S at HR HI HG
  generalize rcs S = V at HR HI
  refine (callsIn_wide (n := 4)).1 ?_
  refine callsIn_of_wp_marks Tryz.func37 rfl trivial ?_ rfl
  simp only [Tryz.ntmps37, List.size_toArray, List.length_cons, List.length_nil, Nat.reduceAdd, Nat.reduceSub, Array.replicate_succ, Array.replicate_zero, List.push_toArray, List.append_toArray, List.nil_append, List.cons_append]
  gi_wp2_with fail
  refine ⟨trivial, ?_⟩
  gi_at_call 60
  refine (callsIn_wide.2 (HR.out _)).mono ?_
  rintro e w2 ⟨rfl, hb2⟩
  have b1 : Boxed ((w.alloc (.cells #[.int .i32 r] 21)).alloc (.cells #[.slice none 0 0] 62)) w.heap.size 21 (.int .i32 r) := (Boxed.new w 21 _).alloc _
  have b2 : Boxed ((w.alloc (.cells #[.int .i32 r] 21)).alloc (.cells #[.slice none 0 0] 62)) (w.heap.size + 1) 62 (.slice none 0 0) := by
    have h := Boxed.new (w.alloc (.cells #[.int .i32 r] 21)) 62 (.slice none 0 0)
    rwa [World.size_alloc] at h
  have HC := Lib.hid (⟨boxed_bel b1 hb2, ⟨_, boxed_bel b2 hb2, World.ownsRow_nil _ _ _ _⟩, (((Bel.refl w).alloc _).alloc _).trans hb2⟩ : CI r w (codesL r 0) w2)
  clear b1 b2 hb2
  gi_wp2_with fail
  refine wpIn_loop (InvC V r w) (fun a _ => 10 - (intOf (a.tmps.getD 9 undef)).toNat) ?_ ?_
  · exact ⟨0, [], _, _, _, _, _, _, by omega, rfl, HC.out, trivial⟩
  rintro a W ⟨k, ds, u5, u10, u11, u12, u13, u23, hk, rfl, hC, hD⟩
  have HC := Lib.hid hC
  have HD := Lib.hid hD
  clear hC hD
  by_cases hlk : k < 10
  · have hix := fun w => HI.out k hlk w
    obtain ⟨hg1, hg2⟩ := HG.out k hlk
    have HTB := Lib.hid (show tab k = codesOf (fst k) (decs (S k) (S k).size 0) by rw [hg1]; rfl)
    have HTS := Lib.hid hg2
    have HF := Lib.hid (fst_range k hlk)
    have HLT := Lib.hid (tab_short k hlk)
    have HLL := Lib.hid (codesL_short r k hk)
    have HL1 := Lib.hid (show codesL r (k + 1) = codesL r k ++ sel r (tab k) from rfl)
    clear hg1 hg2
    generalize fst k = f at hix HTB HF
    generalize S k = T at hix HTB HTS
    generalize alt k = b at hix
    generalize tab k = tb at HTB HLT HL1
    generalize codesL r k = done at HC HLL HL1
    gi_wp2_with fail
    have HC2 := Lib.hid (HC.out.alloc (.cells #[.int .i64 f, .string T, .bool b] 86))
    have HD2 := Lib.hid (HD.out.mono (W' := W.alloc (.cells #[.int .i64 f, .string T, .bool b] 86)) (hi' := (W.alloc (.cells #[.int .i64 f, .string T, .bool b] 86)).heap.size) (by simp) (fun D hD h => (Lib.alloc_old W _ D hD).trans h))
    clear hix
    generalize hWz : W.alloc (.cells #[.int .i64 f, .string T, .bool b] 86) = Wz at HC2 HD2 ⊢
    generalize hWs : W.heap.size = Ws
    clear hWz
    have HZ := Lib.hid (show w.heap.size ≤ Wz.heap.size from Below.size HC2.out.2.2)
    refine range_codes tb (by decide) rfl (enters_of Tryz.func61 (by kernel_rfl) rfl) rfl (IC r w done Wz.heap.size ds) (fun _ => False)
      (fun pre X o L h hl => ⟨h.1.put o hl rfl (by have := HZ.out; omega), h.2.mono (Nat.le_refl _) (fun D hD h => (World.putObj_heap_other (by omega)).trans h)⟩) (fun _ _ _ h _ => h)
      (fun pre X o h => ⟨h.1.alloc o, h.2.mono (Nat.le_refl _) (fun D hD h => (Lib.alloc_old X _ D (Array.getElem?_eq_some_iff.1 h).1).trans h)⟩)
      (fun pre X G s p p' h hG hs => ⟨h.1.iter p' hs (by have := HZ.out; omega), h.2.mono (Nat.le_refl _) (fun D hD h => (Lib.iterAt_other X G D s p' (by omega)).trans h)⟩)
      ⟨by simpa [sel] using HC2.out, HD2.out⟩
      (fun x => { tmps := #[.int .i32 r, .pointer (some ⟨w.heap.size, 0, none⟩), .slice none 0 0, .pointer (some ⟨w.heap.size + 1, 0, none⟩), undef, .pointer (some ⟨Ws, 0, none⟩), .int .i64 x.1, .int .i32 x.2, .agg V, .int .i64 k, .bool true, .agg #[.int .i64 f, .string T, .bool b], .agg #[.int .i64 f, .string T, .bool b], .func (.func 61) #[.agg #[.int .i64 f, .string T, .bool b]] #[], .int .i64 x.1, .int .i32 x.2, undef, undef, undef, undef, undef, undef, undef, u23, undef], defers := [] }) ?assign ?body ?it ?done ?stop
    case assign =>
      intro l x X K hK
      gi_wp2
      exact hK
    case it =>
      intro J Jx hJa hJi hY X hl hj
      exact codes_in 3 _ (by decide) f T b HF.out HTS.out tb HTB.out (Wz.heap.size + 2) J Jx hJa hJi hY X hl (by omega) hj
    case body =>
      rintro l pre x X ⟨⟨hb1, ⟨v, hv, hrow⟩, hB⟩, hDk⟩ hx
      have hlen : (done ++ sel r pre).length ≤ 3000 := by
        obtain ⟨rest, hr⟩ := hx
        have h1 := HLL.out
        have h2 := HLT.out
        have h3 := sel_short r pre
        rw [hr] at h2
        simp only [List.length_append] at h2 ⊢
        omega
      have hc1 := hb1.cell
      have hc2 := hv.cell
      have HDK := Lib.hid hDk
      obtain ⟨i0, hi, hz0, hz1, hz2⟩ := info_parts int3
      clear hx
      by_cases hxr : x.2 = r
      · have hxb : (x.2 == r) = true := by simpa using hxr
        have HX := Lib.hid hxr
        clear hxr
        gi_wp2_with (gi_at_builtin; refine wpListIn_append_own _ rfl _ _ 62 rfl w.heap.size 3 i0 (.int .i64 0) 1 8 Tryz.underlying62 hi hz0 hz1 hz2 rfl (by decide) _ _ _ rfl (hrow.alloc _) ⟨X.heap.size, 0, none⟩ 1 1 [.int .i64 x.1] rfl rfl (cell_one_new _ _ _) (by simp [Value.oneCell']) (by simp only [maxLen]; omega) (by omega) (by have := hB.size; simp; omega) ?_; intro v' w1 hown' hgrow _; obtain ⟨g', cap', rfl⟩ := ownsRow_succ hown'; obtain ⟨hv1, hv2, hr2, hk2, hb2⟩ := hv.appended (by decide) hrow hB.size (by omega) hown' hgrow; have hc3 := hv1.cell; have hf3 := hv1.frozen)
        have q1 : Boxed w1 w.heap.size 21 (.int .i32 r) := (hb1.alloc _).kept hgrow (hb1.not_row (by decide) hrow)
        simp only [List.length_append] at hv2 hr2 hk2 hb2
        refine ⟨hk2, ⟨q1.other (by omega) _, ⟨_, hv2, ?_⟩, Below.trans hB hb2⟩, HDK.out.mono (Nat.le_refl _) (fun D hD h => hk2.same _ _ h rfl)⟩
        rw [sel_hit r pre HX.out]
        simpa [List.length_append, Nat.add_assoc] using hr2
      · have hxb : (x.2 == r) = false := by simpa using hxr
        have HX := Lib.hid hxr
        clear hxr
        gi_wp2
        refine ⟨KeepsOthers.refl _, ⟨hb1, ⟨v, hv, ?_⟩, hB⟩, HDK.out⟩
        rw [sel_miss r pre HX.out]
        exact hrow
    case done =>
      rintro W' ⟨hC', hD'⟩ hK
      have HL := Lib.hid (Array.getElem?_eq_some_iff.1 hK).1
      have HK := Lib.hid hK
      have HC3 := Lib.hid hC'
      have HD3 := Lib.hid hD'
      clear hK hC' hD'
      gi_wp2
      refine ⟨⟨k + 1, _, _, _, _, _, _, _, by omega, rfl, ?_, ?_⟩, ?_⟩
      · rw [HL1.out]
        exact HC3.out
      · exact ⟨Wz.heap.size, rfl, HZ.out, HL.out, HK.out, HD3.out⟩
      · simp [intOf]
        omega
    case stop =>
      intro W' h
      exact h.elim
  · obtain rfl : k = 10 := by omega
    obtain ⟨hb1, ⟨v, hv, hrow⟩, hB⟩ := HC.out
    have hc2 := hv.cell
    have HRO := Lib.hid hrow
    have HB := Lib.hid hB
    clear hb1 hv hrow hB
    gi_wp2_with fail
    exact leaves_all w.heap.size (fun X => U.Own X w.heap.size 3 .i64 v (codesL r 10) ∧ Bel w X)
      (fun X D o h hD hd => ⟨ownsRow_putObj h.1 o hd rfl, bel_put h.2 hD o⟩) (fun X h => ⟨_, results_tmp rfl _ _ _, v, rfl, h.1, h.2⟩) ds _ W HD.out ⟨HRO.out, HB.out⟩
end Go.Proofs.YtipigfgnpfhdbaaGreatDoor.E
namespace Go.Proofs.YtipigfgnpfhdbaaGreatDoor.S
open Go.RowKit

/-- A sign that stands behind the zero z. -/
def sg (z n : Int) : Int × Bool :=
  if 48 ≤ n ∧ n ≤ 57 then (z + (n - 48), true)
  else if n = 43 then (z + 10, true)
  else if n = 45 then (z + 11, true)
  else if n = 40 then (z + 13, true)
  else if n = 41 then (z + 14, true)
  else (0, false)

/-- A superscript. -/
def up (n : Int) : Int × Bool :=
  if n = 49 then (185, true) else if n = 50 then (178, true) else if n = 51 then (179, true) else sg 8304 n

/-- A Greek symbol. -/
def gr (n : Int) : Int × Bool :=
  if n = 97 then (945, true) else if n = 98 then (946, true) else if n = 99 then (947, true) else (0, false)

/-- Each set's. -/
def ru (s n : Int) : Int × Bool := if s = 10 then sg 8320 n else if s = 11 then up n else gr n

theorem ret_pair {a : Int} {b : Bool} {p : Int × Bool} (h : p = (a, b)) : Ending.returned (.tuple #[.int .i32 a, .bool b]) = .returned (.tuple #[.int .i32 p.1, .bool p.2]) := by rw [h]

set_option maxHeartbeats 1000000 in
theorem sign_sub (n : Int) (w : World) : Calls Tryz.prog 96 #[.int .i32 8320, .int .i64 n] w fun e w' => e = .returned (.tuple #[.int .i32 (sg 8320 n).1, .bool (sg 8320 n).2]) ∧ w' = w := by
  go_enter Tryz.func96, Tryz.ntmps96
  go_wp2
  all_goals go_ret2
  all_goals refine ⟨ret_pair ?_, rfl⟩
  all_goals simp only [beq_iff_eq, beq_eq_false_iff_ne, ne_eq] at *
  all_goals (unfold sg; (repeat' split) <;> first | rfl | omega | (subst_vars; decide +kernel))

set_option maxHeartbeats 1000000 in
theorem sign_sup (n : Int) (w : World) : Calls Tryz.prog 96 #[.int .i32 8304, .int .i64 n] w fun e w' => e = .returned (.tuple #[.int .i32 (sg 8304 n).1, .bool (sg 8304 n).2]) ∧ w' = w := by
  go_enter Tryz.func96, Tryz.ntmps96
  go_wp2
  all_goals go_ret2
  all_goals refine ⟨ret_pair ?_, rfl⟩
  all_goals simp only [beq_iff_eq, beq_eq_false_iff_ne, ne_eq] at *
  all_goals (unfold sg; (repeat' split) <;> first | rfl | omega | (subst_vars; decide +kernel))

theorem raised_any (n : Int) (w : World) : Calls Tryz.prog 97 #[.int .i64 n] w fun e w' => e = .returned (.tuple #[.int .i32 (up n).1, .bool (up n).2]) ∧ w' = w := by
  obtain ⟨p, hp⟩ : ∃ p, sg 8304 n = p := ⟨_, rfl⟩
  have hs : ∀ w, Calls Tryz.prog 96 #[.int .i32 8304, .int .i64 n] w fun e w' => e = .returned (.tuple #[.int .i32 p.1, .bool p.2]) ∧ w' = w := fun w => by have := sign_sup n w; rwa [hp] at this
  have HS := Lib.hid hs
  have HP := Lib.hid hp
  clear hs hp
  go_enter Tryz.func97, Tryz.ntmps97
  go_wp2_with (go_at_call 96; (with_reducible refine (HS.out _).mono ?_); rintro e w' ⟨rfl, rfl⟩)
  all_goals go_ret2
  all_goals refine ⟨ret_pair ?_, rfl⟩
  all_goals simp only [beq_iff_eq, beq_eq_false_iff_ne, ne_eq] at *
  all_goals (unfold up; (repeat' split) <;> first | rfl | omega | exact HP.out)

theorem greek_any (n : Int) (w : World) : Calls Tryz.prog 98 #[.int .i64 n] w fun e w' => e = .returned (.tuple #[.int .i32 (gr n).1, .bool (gr n).2]) ∧ w' = w := by
  go_enter Tryz.func98, Tryz.ntmps98
  go_wp2
  all_goals go_ret2
  all_goals refine ⟨ret_pair ?_, rfl⟩
  all_goals simp only [beq_iff_eq, beq_eq_false_iff_ne, ne_eq] at *
  all_goals (unfold gr; (repeat' split) <;> first | rfl | omega)

theorem rune_is (s n r : Int) (b : Bool) (hs : s = 10 ∨ s = 11 ∨ s = 12) (h : ru s n = (r, b)) (w : World) : Calls Tryz.prog 58 #[.int .i64 s, .int .i64 n] w fun e w' => e = .returned (.tuple #[.int .i32 r, .bool b]) ∧ w' = w := by
  obtain rfl | rfl | rfl := hs
  · have h1 : sg 8320 n = (r, b) := h
    have HS : RowKit.Hid (∀ w, Calls Tryz.prog 96 #[.int .i32 8320, .int .i64 n] w fun e w' => e = .returned (.tuple #[.int .i32 r, .bool b]) ∧ w' = w) := Lib.hid fun w => by have := sign_sub n w; rwa [h1] at this
    clear h h1
    go_enter Tryz.func58, Tryz.ntmps58
    go_wp2_with (go_at_call 96; (with_reducible refine (HS.out _).mono ?_); rintro e w' ⟨rfl, rfl⟩)
    go_ret2
    exact ⟨rfl, rfl⟩
  · have h1 : up n = (r, b) := h
    have HS : RowKit.Hid (∀ w, Calls Tryz.prog 97 #[.int .i64 n] w fun e w' => e = .returned (.tuple #[.int .i32 r, .bool b]) ∧ w' = w) := Lib.hid fun w => by have := raised_any n w; rwa [h1] at this
    clear h h1
    go_enter Tryz.func58, Tryz.ntmps58
    go_wp2_with (go_at_call 97; (with_reducible refine (HS.out _).mono ?_); rintro e w' ⟨rfl, rfl⟩)
    go_ret2
    exact ⟨rfl, rfl⟩
  · have h1 : gr n = (r, b) := h
    have HS : RowKit.Hid (∀ w, Calls Tryz.prog 98 #[.int .i64 n] w fun e w' => e = .returned (.tuple #[.int .i32 r, .bool b]) ∧ w' = w) := Lib.hid fun w => by have := greek_any n w; rwa [h1] at this
    clear h h1
    go_enter Tryz.func58, Tryz.ntmps58
    go_wp2_with (go_at_call 98; (with_reducible refine (HS.out _).mono ?_); rintro e w' ⟨rfl, rfl⟩)
    go_ret2
    exact ⟨rfl, rfl⟩

end Go.Proofs.YtipigfgnpfhdbaaGreatDoor.S
