/- What eacc.runs and next answer: the ten runs; the number behind another one. No condition. -/
import Derived.Test.YtkhcodmcddeakaaText
import Derived.Deep.WholeRow
namespace Go.Proofs.Ytkhcodmcddeakaa.U
open Go.RowKit
set_option linter.unusedVariables false

/-- A run's cells; all runs' cells. -/
def rc (S : Nat → ByteArray) (k : Nat) : Array Value := #[.int .i64 (fst k), .string (S k), .bool (alt k)]
def rcs (S : Nat → ByteArray) : Array Value := #[.int .i64 (fst 0), .string (S 0), .bool (alt 0), .int .i64 (fst 1), .string (S 1), .bool (alt 1), .int .i64 (fst 2), .string (S 2), .bool (alt 2), .int .i64 (fst 3), .string (S 3), .bool (alt 3), .int .i64 (fst 4), .string (S 4), .bool (alt 4), .int .i64 (fst 5), .string (S 5), .bool (alt 5), .int .i64 (fst 6), .string (S 6), .bool (alt 6), .int .i64 (fst 7), .string (S 7), .bool (alt 7), .int .i64 (fst 8), .string (S 8), .bool (alt 8), .int .i64 (fst 9), .string (S 9), .bool (alt 9)]
def zrcs : Array Value := (List.replicate 10 [Value.int .i64 0, .string ⟨#[]⟩, .bool false]).flatten.toArray

section
variable {P : Program} {w : World}
theorem wpl_build {ops : Array Oper} {rest : List Oper} {o : Oper} {a : Act} {Q : Exit → Act → World → Prop} (hg : o.guard = none) (t : TypeId) (parts : Array (Nat × Operand)) (ho : o.op = .build t parts)
    (v : Array Value) (hf : P.built t (parts.map fun (i, x) => (i, a.eval x)).toList = some v) (h : wpList P ops Q rest (a.put o.dst (.agg v)) w) : wpList P ops Q (o :: rest) a w :=
  wpList_build hg t parts ho (by rw [hf]; rfl) (by rw [hf]; exact h)
theorem wpl_store_row {ops : Array Oper} {rest : List Oper} {o : Oper} {a : Act} {Q : Exit → Act → World → Prop} (hgd : o.guard = none) (ty : TypeId) (x y : Operand) (ho : o.op = .store ty x y)
    (g : Nat) (cells : Array Value) (hx : a.eval x = .pointer (some ⟨g, 0, none⟩)) (hy : a.eval y = .agg cells)
    (t : TypeId) (old : Array Value) (w' : World) (hg : w'.heap.size = g) (hw : w = w'.alloc (.cells old t)) (hi : (P.info? ty).map (·.size) = some cells.size)
    (hold : old.size = cells.size) (h1 : cells.all (·.oneCell') = true)
    (h : wpList P ops Q rest (a.put o.dst undef) (w'.alloc (.cells cells t))) : wpList P ops Q (o :: rest) a w := by
  subst hg
  subst hw
  refine wpList_plain hgd fun K hK => ?_
  refine wp_store_row ty x y ho w'.heap.size cells hx hy t old (heap_alloc_last w' _) hi hold h1 ?_
  rw [World.setRow_alloc_new]
  exact hK _ _ h
end

theorem zero35 : (Try.prog.info? 35).map (fun i => (i.zero, i.size)) = some (some (.agg zrcs), 30) := by kernel_rfl

theorem results_cell {P : Program} {fn : Func} {p : Tmp} {ty : TypeId} (h : fn.results = #[.cell p ty]) (tmps : Array Value) (w : World) :
    (results fn tmps).run P w = ((asAddr (tmps.getD p undef)).run P w).andThen fun a w₁ => (loadVar ty a).run P w₁ := by
  simp only [results, h]
  simp [Sem.run_bind, Result.andThen]

set_option maxRecDepth 100000 in
set_option maxHeartbeats 2000000 in
theorem runs_is (w : World) : Calls Try.prog 11 #[] w fun e w' => e = .returned (.agg (rcs (strAt Try.f11))) ∧ Bel w w' := by
  refine calls_of_wp Try.func11 body11 ?_
  generalize strAt Try.f11 = S
  generalize posAt Try.f11 = p
  unfold code11
  simp only [Try.ntmps11, List.size_toArray, List.length_nil, Nat.reduceSub, Array.replicate_succ, Array.replicate_zero, List.push_toArray, List.append_toArray, List.nil_append, List.cons_append]
  have hz : (rcs S).size = 30 := rfl
  have h1 : (rcs S).all (·.oneCell') = true := by kernel_rfl
  have HZ := Lib.hid hz
  have H1 := Lib.hid h1
  clear hz h1
  go_wp2_with (first | ((with_reducible (show wpList _ _ _ (Oper.mk _ (Op.build 35 _) _ _ _ _ :: _) _ _)); refine wpl_build rfl 35 _ rfl (rcs S) (by kernel_rfl) ?_; generalize hV : rcs S = V at HZ H1 ⊢; replace hV := Lib.hid hV) | ((with_reducible (show wpList _ _ _ (Oper.mk _ (Op.store 35 _ _) _ _ _ _ :: _) _ _)); refine wpl_store_row rfl 35 _ _ rfl w.heap.size V rfl rfl 35 _ w rfl rfl (by rw [HZ.out]; kernel_rfl) (by rw [HZ.out]; rfl) H1.out ?_) | fail)
  have hld := run_loadVar_new (P := Try.prog) w 35 V 10 33 (by kernel_rfl) (by rw [HZ.out]; kernel_rfl)
  refine bodyPost_ret (v := .agg V) ?_ rfl ⟨by rw [hV.out], (Bel.refl w).alloc _⟩
  rw [results_cell rfl]
  simp [asAddr, Result.andThen, hld, Act.put]

/-- The run behind the run k of all runs' cells. -/
theorem rcs_at (S : Nat → ByteArray) : ∀ k, k < 10 → (rcs S).extract (k * 3) (k * 3 + 3) = rc S k := by
  intro k hk
  obtain rfl | rfl | rfl | rfl | rfl | rfl | rfl | rfl | rfl | rfl : k = 0 ∨ k = 1 ∨ k = 2 ∨ k = 3 ∨ k = 4 ∨ k = 5 ∨ k = 6 ∨ k = 7 ∨ k = 8 ∨ k = 9 := by omega
  all_goals rfl

theorem and255 {c : Int} (h0 : 0 ≤ c) (h1 : c < 1099511627776) : bits BinOp.and IntKind.i64 c 255 = c % 256 := by
  obtain ⟨a, rfl⟩ : ∃ a : Nat, c = a := ⟨c.toNat, by omega⟩
  have ha : a < 1099511627776 := by omega
  have e1 : (BitVec.ofInt 64 (a : Int)).toNat = a := by
    rw [BitVec.ofInt_natCast, BitVec.toNat_ofNat]; exact Nat.mod_eq_of_lt (by omega)
  have e2 : (BitVec.ofInt 64 (255 : Int)).toNat = 255 := by decide
  have e3 : a &&& 255 = a % 256 := Nat.and_two_pow_sub_one_eq_mod a 8
  show IntKind.i64.wrap ((BitVec.ofInt 64 (a : Int) &&& BitVec.ofInt 64 (255 : Int)).toNat : Int) = _
  rw [BitVec.toNat_and, e1, e2, e3, IntKind.wrap_i64]
  omega

theorem next_any (c : Int) (h0 : 0 ≤ c) (h1 : c < 1099511627776) (w : World) : Calls Try.prog 12 #[.int .i64 c] w fun e w' => e = .returned (.int .i64 (nx c)) ∧ w' = w := by
  have ha := and255 h0 h1
  by_cases h : c % 256 = 126
  · have hb : (bits BinOp.and IntKind.i64 c 255 == 126) = true := by rw [ha, beq_iff_eq]; exact h
    go_enter Try.func12, Try.ntmps12
    go_wp2
    go_ret
    refine ⟨ret_int ?_, rfl⟩
    rw [nx, if_pos h]
    omega
  · have hb : (bits BinOp.and IntKind.i64 c 255 == 126) = false := by rw [ha, beq_eq_false_iff_ne]; exact h
    go_enter Try.func12, Try.ntmps12
    go_wp2
    go_ret
    refine ⟨ret_int ?_, rfl⟩
    rw [nx, if_neg h]
end Go.Proofs.Ytkhcodmcddeakaa.U
