/- What the reference's Escapes answers: the forty escapes of chapter 8, in a row of its own. -/
import Derived.Test.YthdggdjaicfapaaDoorRef
namespace Go.Proofs.YthdggdjaicfapaaDoor.U
open Go.RowKit
set_option linter.unusedVariables false

/-- An escape's cells. -/
def row3 (e : Esc) : List Value := [.string (str e.1), .int .i64 e.2.1, .int .i64 e.2.2]
theorem row3_len (e : Esc) : (row3 e).length = 3 := rfl
theorem flat3_len (l : List Esc) : (l.flatMap row3).length = l.length * 3 := by
  induction l with
  | nil => rfl
  | cons a l ih => rw [List.flatMap_cons, List.length_append, ih, row3_len, List.length_cons]; omega
theorem flat3 : ∀ (l : List Esc) (i : Nat) (x : Esc), l[i]? = some x → ∀ j, j < 3 → (l.flatMap row3)[i * 3 + j]? = (row3 x)[j]?
  | [], i, x, h, _, _ => by simp at h
  | y :: t, 0, x, h, j, hj => by
    simp at h
    subst h
    rw [List.flatMap_cons, List.getElem?_append_left (by rw [row3_len]; omega)]
    simp
  | y :: t, i + 1, x, h, j, hj => by
    simp at h
    rw [List.flatMap_cons, List.getElem?_append_right (by rw [row3_len]; omega), row3_len]
    rw [show (i + 1) * 3 + j - 3 = i * 3 + j by omega]
    exact flat3 t i x h j hj
theorem row3_one (l : List Esc) : ∀ u ∈ l.flatMap row3, u.oneCell' = true := fun u hu => by
  obtain ⟨e, _, h⟩ := List.mem_flatMap.1 hu
  simp [row3] at h
  rcases h with rfl | rfl | rfl <;> rfl

/-- A row of escapes of the call's own. -/
def EOwn (w : World) (base : Nat) (v : Value) (l : List Esc) : Prop := w.ownsRow base 41 3 v l.length (l.flatMap row3)
theorem EOwn.keep {w w' : World} {base : Nat} {v : Value} {l : List Esc} (h : EOwn w base v l) (hb : Bel w w') : EOwn w' base v l := by
  refine ⟨h.1, ?_⟩
  rcases h.2 with h | ⟨g, cap, cur, hv, hbg, hg, rest⟩
  · exact .inl h
  · exact .inr ⟨g, cap, cur, hv, hbg, by rw [hb.block g (Array.getElem?_eq_some_iff.1 hg).1]; exact hg, rest⟩

theorem info43 : (Tryd.prog.info? 41).map (fun i => (i.zero, i.size, i.bytes)) = some (some (.agg #[.string ⟨#[]⟩, .int .i64 0, .int .i64 0]), 3, 32) := by kernel_rfl

theorem run_append_e {w : World} {ty : TypeId} {base : Nat} {v : Value} {xs ys : List Esc} (hown : EOwn w base v xs) {g m c : Nat} (hm : ys.length = m)
    (hnews : ∀ j u, (ys.flatMap row3)[j]? = some u → w.cell? ⟨g, j, none⟩ = some u) (hn : xs.length + m ≤ 1000) (hbase : base ≤ w.heap.size) :
    ∃ v' w', (Builtin.append_ #[38, 38] ty #[v, .slice (some ⟨g, 0, none⟩) m c]).run Tryd.prog w = .ok v' w' ∧ EOwn w' base v' (xs ++ ys) ∧ Below base w w' := by
  obtain ⟨i0, hi0, hz0, hz1, hz2⟩ := info_parts info43
  obtain ⟨v', w', h1, h2, h3, _⟩ := run_append_own_at (P := Tryd.prog) w base 38 ty 41 i0 _ 3 32 Tryd.underlying38 hi0 hz0 hz1 hz2 rfl (by omega) v _ _ hown ⟨g, 0, none⟩ m c (ys.flatMap row3) (by rw [flat3_len, hm])
    (fun j u hu => by rw [addr_add, Nat.zero_add]; exact hnews j u hu) (row3_one ys) (by simp only [maxLen]; omega) (by omega) hbase
  refine ⟨v', w', h1, ?_, (Below.refl _ _).grown h3 hbase fun g hg => (World.ownsRow.lt hown g hg).1⟩
  unfold EOwn
  rw [List.length_append, List.flatMap_append, hm]
  exact h2
theorem wp_append_e {w : World} {o : Oper} {a : Act} {K : Act → World → Prop} {Q : Exit → Act → World → Prop} (s x : Operand)
    (ho : o.op = .call { callee := .builtin .append, args := #[s, x], argTypes := #[38, 38] })
    {base : Nat} {v : Value} {xs ys : List Esc} (hown : EOwn w base v xs) (hs : a.eval s = v) {g m c : Nat} (hx : a.eval x = .slice (some ⟨g, 0, none⟩) m c) (hm : ys.length = m)
    (hnews : ∀ j u, (ys.flatMap row3)[j]? = some u → w.cell? ⟨g, j, none⟩ = some u) (hn : xs.length + m ≤ 1000) (hbase : base ≤ w.heap.size)
    (h : ∀ v' w', EOwn w' base v' (xs ++ ys) → Below base w w' → K (a.put o.dst v') w') : o.wp Tryd.prog a w K Q := by
  obtain ⟨v', w', hrun, h2, h3⟩ := run_append_e (ty := o.type) (c := c) hown hm hnews hn hbase
  unfold Oper.wp execOp
  simp only [ho, resolve, invoke, builtin, Sem.run_bind, Sem.run_pure, Result.andThen_ok, List.map_toArray, List.map_cons, List.map_nil, hs, hx, hrun]
  exact h v' w' h2 h3
theorem wpl_append_e {w : World} {ops : Array Oper} {rest : List Oper} {o : Oper} {a : Act} {Q : Exit → Act → World → Prop} (hw : Region.wanted o (yielded ops a.tmps) = true) (s x : Operand)
    (ho : o.op = .call { callee := .builtin .append, args := #[s, x], argTypes := #[38, 38] })
    {base : Nat} {v : Value} {xs ys : List Esc} (hown : EOwn w base v xs) (hs : a.eval s = v) {g m c : Nat} (hx : a.eval x = .slice (some ⟨g, 0, none⟩) m c) (hm : ys.length = m)
    (hnews : ∀ j u, (ys.flatMap row3)[j]? = some u → w.cell? ⟨g, j, none⟩ = some u) (hn : xs.length + m ≤ 1000) (hbase : base ≤ w.heap.size)
    (h : ∀ v' w', EOwn w' base v' (xs ++ ys) → Below base w w' → wpList Tryd.prog ops Q rest (a.put o.dst v') w') : wpList Tryd.prog ops Q (o :: rest) a w :=
  BigFrame.wpList_want hw fun _ hK => wp_append_e s x ho hown hs hx hm hnews hn hbase fun v' w' h2 h3 => hK _ _ (h v' w' h2 h3)
theorem step_append_e {w : World} {ops : Array Oper} {o : Oper} {a : Act} {K : Act → World → Prop} {Q : Exit → Act → World → Prop} {E : Prop} (hgd : o.guard = none) (s x : Operand)
    (ho : o.op = .call { callee := .builtin .append, args := #[s, x], argTypes := #[38, 38] })
    {base : Nat} {v : Value} {xs ys : List Esc} (hown : EOwn w base v xs) (hs : a.eval s = v) {g m c : Nat} (hx : a.eval x = .slice (some ⟨g, 0, none⟩) m c) (hm : ys.length = m)
    (hnews : ∀ j u, (ys.flatMap row3)[j]? = some u → w.cell? ⟨g, j, none⟩ = some u) (hn : xs.length + m ≤ 1000) (hbase : base ≤ w.heap.size)
    (h : ∀ v' w', EOwn w' base v' (xs ++ ys) → Below base w w' → K (a.put o.dst v') w') :
    if Region.wanted o (yielded ops a.tmps) = true then Oper.wp Tryd.prog o a w K Q else E := by
  have hw : Region.wanted o (yielded ops a.tmps) = true := by simp [Region.wanted, hgd]
  rw [if_pos hw]
  exact wp_append_e s x ho hown hs hx hm hnews hn hbase h
/-- The cells of a block that was just made. -/
theorem news_made {w : World} {cs : Array Value} {ys : List Esc} {n : Nat} (hn : w.heap.size = n) (h : cs.toList = ys.flatMap row3) : ∀ j u, (ys.flatMap row3)[j]? = some u → (w.alloc (.cells cs 41)).cell? ⟨n, j, none⟩ = some u := fun j u hu => by
  subst hn
  refine (World.cell?_alloc_mark w cs 41 (0, 0) j).trans ?_
  rw [← h] at hu
  simpa using hu

/-- The row of last bytes. -/
def Lst (w : World) (G : Nat) : Prop := ∀ (j : Nat) (l : List Int), (lastT.take 9)[j]? = some l → w.cell? ⟨G, j, none⟩ = some (.string (str l))
theorem Lst.below {w w' : World} {G : Nat} (h : Lst w G) (hb : Below (G + 1) w w') : Lst w' G := fun j l hl => (hb.cell (p := ⟨G, j, none⟩) (Nat.lt_succ_self G)).trans (h j l hl)
theorem Lst.bel {w w' : World} {G : Nat} (h : Lst w G) (hb : Bel w w') : Lst w' G := fun j l hl => by
  have := h j l hl
  exact (Below.cell hb (p := ⟨G, j, none⟩) (cell_block this)).trans this

def EscRel (w : World) (G : Nat) (v i : Value) (w' : World) : Prop := ∃ m : Nat, i = .int .i64 m ∧ 1 ≤ m ∧ m ≤ 9 ∧ EOwn w' (G + 1) v (escs.take (4 * m - 4)) ∧ Lst w' G ∧ Bel w w' ∧ G < w'.heap.size
def EscPost (w : World) (e : Ending) (w' : World) : Prop := ∃ g cap, e = .returned (.slice (some ⟨g, 0, none⟩) 40 cap) ∧ 40 ≤ cap ∧ (∀ (k : Nat) (x : Esc), escs[k]? = some x → w'.cell? ⟨g, k * 3, none⟩ = some (.string (str x.1)) ∧ w'.cell? ⟨g, k * 3 + 1, none⟩ = some (.int .i64 x.2.1) ∧ w'.cell? ⟨g, k * 3 + 2, none⟩ = some (.int .i64 x.2.2)) ∧ Bel w w'

/-- One set's four escapes. -/
def four (m : Nat) (L : List Int) : List Esc := [([27, 40] ++ L, 0, m), ([27, 44] ++ L, 0, m), ([27, 41] ++ L, 1, m), ([27, 45] ++ L, 1, m)]
theorem four_next : ∀ m ∈ [1, 2, 3, 4, 5, 6, 7, 8], ∀ L, lastT[m]? = some L → escs.take (4 * (m + 1) - 4) = escs.take (4 * m - 4) ++ four m L ∧ (lastT.take 9)[m]? = some L := by decide +kernel
theorem str_add (a b : List Int) : str (a ++ b) = str a ++ str b := by
  unfold str
  rw [bs_append]
  simp [ByteArray.ext_iff]

end Go.Proofs.YthdggdjaicfapaaDoor.U
