/- What sets.Default, read.Text and the reference's Runes answer; the law's own 'answers'. What the reference's Escapes answers: the forty escapes of chapter 8, in a row of its own. What the reference's Escapes answers: the forty escapes of chapter 8, in a row of its own. What the reference's Designate answers: the least of the escapes that make a set a side's, or none. What the reference's Runes answers; the law's own 'answers'; escapes that are read alone. ReadShut's walk. ReadJoins' statement whose order is drawn: what holds whatever of it is done. ReadJoins' walk. -/
import Derived.Test.YtphnahabonfmmaaGreatDoorM7
import Derived.Test.YtphnahabonfmmaaGreatDoorM6
namespace Go.Proofs.YtphnahabonfmmaaGreatDoor.D
open Go.RowKit U V
set_option linter.unusedVariables false

theorem default_is (w : World) : Calls Tryz.prog 26 #[] w fun e w' => e = .returned (.agg #[.int .i64 1, .int .i64 2]) ∧ Bel w w' := by
  go_enter Tryz.func26, Tryz.ntmps26
  go_wp2
  refine bodyPost_ret (v := .agg #[.int .i64 1, .int .i64 2]) (by simp [results, Tryz.results26, go_sem]) rfl ⟨rfl, ?_⟩
  exact (Bel.refl w).alloc _

/-- What a text is that begins with the usual sets and must end with them. -/
def textO (n : Nat) : Out → Except (Int × Int) (List Int)
  | .error f => .error f
  | .ok s => if s.g0 = 1 ∧ s.g1 = 2 then .ok s.done else .error (7, (n : Int))
def txt (l : List Int) : Except (Int × Int) (List Int) := textO l.length (dec l 1 2)
theorem run_err : ∀ (k : Nat) {l : List Int} {p : Int} {s : St} {f : Int × Int}, run k l p s = .error f → f.1 = 4 ∨ f.1 = 5 ∨ f.1 = 6
  | 0, l, p, s, f, h => by cases h
  | k + 1, l, p, s, f, h => by
    by_cases hl : l = []
    · subst hl
      rw [run_nil] at h
      cases h
    · rcases hs : step l p s with g | ⟨n, s'⟩
      · rw [run_bad hl hs] at h
        cases h
        exact step_err hs
      · rw [run_next hl hs] at h
        exact run_err k h
theorem dec_err {l : List Int} {g0 g1 : Int} {f : Int × Int} (h : dec l g0 g1 = .error f) : f.1 = 1 ∨ f.1 = 4 ∨ f.1 = 5 ∨ f.1 = 6 := by
  unfold dec at h
  split at h
  · rcases hr : run l.length l 0 ⟨g0, g1, [], [], 0⟩ with g | s
    · rw [hr] at h
      cases h
      exact .inr (run_err _ hr)
    · rw [hr] at h
      simp only [fin] at h
      split at h
      · cases h
      · cases h
        exact .inr (.inr (.inr rfl))
  · cases h
    exact .inl rfl

def TextP (w : World) (t : Except (Int × Int) (List Int)) (e : Ending) (w' : World) : Prop := match t with
  | .error f => e = .returned (.tuple #[.slice none 0 0, .agg #[.int .i64 f.1, .int .i64 f.2]]) ∧ Bel w w'
  | .ok d => ∃ A cap, e = .returned (.tuple #[.slice A d.length cap, .agg #[.int .i64 0, .int .i64 0]]) ∧ d.length ≤ cap ∧ Rd w' w'.heap.size .i32 A d ∧ (A = none → cap = 0) ∧ Bel w w'
/-- A row stays where another block is written. -/
theorem rd_set {w : World} {B p : Nat} {k : IntKind} {A : Option Addr} {l : List Int} (h : Rd w B k A l) (hp : ∀ a, A = some a → a.block ≠ p) (i : Nat) (v : Value) : Rd (w.setCell ⟨p, i, none⟩ v) B k A l := fun j x hx => by
  obtain ⟨g, off, rfl, hg, hc⟩ := h j x hx
  refine ⟨g, off, rfl, hg, ?_⟩
  have hne := hp _ rfl
  have e : (w.setCell ⟨p, i, none⟩ v).heap[g]? = w.heap[g]? := Below.heap_setCell _ _ _ _ (by exact hne)
  simp only [World.cell?] at hc ⊢
  rw [e]
  exact hc
set_option maxRecDepth 100000 in
set_option maxHeartbeats 4000000 in
theorem text_is (A : Option Addr) (n cap : Nat) (l : List Int) (t : Except (Int × Int) (List Int)) (w : World) (hZ : Dz w) (hA : Rd w w.heap.size .u8 A l) (hn : l.length = n) (hc : n ≤ cap) (hn' : n ≤ 1099511627775) (hb : ∀ x ∈ l, 0 ≤ x ∧ x < 256) (ht : txt l = t) :
    Calls Tryz.prog 14 #[.slice A n cap] w (TextP w t) := by
  obtain ⟨o, ho⟩ : ∃ o, dec l 1 2 = o := ⟨_, rfl⟩
  have hto : textO n o = t := by rw [← ht, ← ho, ← hn]; rfl
  have t3 := Two.new w 38 0 0
  have hb0 := (Bel.refl w).alloc (.cells #[.int .i64 0, .int .i64 0] 38)
  have HD := Lib.hid (fun w' (h : Bel w w') => decode_is A n cap l 1 2 o w' (hZ.bel h) (hA.bel h).here hn hc hn' hb ho)
  have HT := Lib.hid hto
  have HO := Lib.hid ho
  have T3 := Lib.hid t3
  have HB0 := Lib.hid hb0
  clear hZ hA hn hc hn' hb ht ho hto t3 hb0
  go_enter Tryz.func14, Tryz.ntmps14
  go_wp2_with fail
  generalize w.alloc (.cells #[.int .i64 0, .int .i64 0] 38) = w1 at *
  with_reducible refine (default_is _).mono ?_
  rintro e w2 ⟨he, hb2⟩
  subst he
  have HB2 := Lib.hid (HB0.out.trans hb2)
  have T32 := Lib.hid (T3.out.bel hb2)
  clear HB0 T3 hb2
  have HDD := Lib.hid (HD.out _ HB2.out)
  clear HD
  go_wp2_with fail
  with_reducible refine HDD.out.mono ?_
  rintro e w3 hp
  rcases o with ⟨x, y⟩ | s
  · obtain ⟨he, hb3⟩ := hp
    dsimp only at he
    subst he
    have hne := dec_err HO.out
    dsimp only at hne
    have q0 : (x != 0) = true := by simp; omega
    have T33 := T32.out.bel hb3
    have HB3 := Lib.hid (HB2.out.trans hb3)
    have hs3 : w.heap.size < w3.heap.size := cell_block T33.1
    have T4 := Lib.hid ((T33.bel ((Bel.refl w3).alloc (.cells #[.int .i64 0, .int .i64 0] 35))).bel ((Bel.refl _).alloc (.cells #[.int .i64 x, .int .i64 y] 38)))
    have hbs : (w3.alloc (.cells #[.int .i64 0, .int .i64 0] 35)).heap.size = w3.heap.size + 1 := by simp
    have T6 := Two.new (w3.alloc (.cells #[.int .i64 0, .int .i64 0] 35)) 38 x y
    rw [hbs] at T6
    have HB4 := Lib.hid ((HB3.out.alloc (.cells #[.int .i64 0, .int .i64 0] 35)).alloc (.cells #[.int .i64 x, .int .i64 y] 38))
    have n1 := eq_false (show ¬ w.heap.size = w3.heap.size + 1 by omega)
    have n2 := eq_false (show ¬ w3.heap.size + 1 = w.heap.size by omega)
    clear hb3 hne T33 hbs T32 HB3 hs3 HB2 HDD HO
    go_wp2_with fail
    generalize (w3.alloc (.cells #[.int .i64 0, .int .i64 0] 35)).alloc (.cells #[.int .i64 x, .int .i64 y] 38) = w4 at *
    generalize w3.heap.size + 1 = N at *
    obtain ⟨a0, a1, a2, a3⟩ := T4.out
    obtain ⟨d0, d1, d2, d3⟩ := T6
    have TF := Lib.hid ((T4.out.set x y).drew)
    have HBF : Hid (Bel w (((w4.setCell ⟨w.heap.size, 0, none⟩ (.int .i64 x)).setCell ⟨w.heap.size, 1, none⟩ (.int .i64 y)).drew)) := Lib.hid (((HB4.out.setCell (by exact Nat.le_refl _) _).setCell (by exact Nat.le_refl _) _).drew)
    clear T4 HB4
    go_wp2_with fail
    go_region
    go_wp2
    obtain ⟨t0, t1, _, _⟩ := TF.out
    clear TF
    revert HBF
    revert t0
    revert t1
    generalize ((w4.setCell ⟨w.heap.size, 0, none⟩ (.int .i64 x)).setCell ⟨w.heap.size, 1, none⟩ (.int .i64 y)).drew = X
    intro t1 t0 HBF
    refine bodyPost_ret (v := .tuple #[.slice none 0 0, .agg #[.int .i64 x, .int .i64 y]]) (by simp [results, Tryz.results14, go_sem, t0, t1]) rfl ?_
    rw [← HT.out]
    exact ⟨rfl, HBF.out⟩
  · obtain ⟨Ad, cd, he, hcd, hrd, hnil, hfar, hb3⟩ := hp
    subst he
    obtain ⟨G0, eG0⟩ : ∃ G0, s.g0 = G0 := ⟨_, rfl⟩
    obtain ⟨G1, eG1⟩ : ∃ G1, s.g1 = G1 := ⟨_, rfl⟩
    obtain ⟨ND, eND⟩ : ∃ ND, s.done.length = ND := ⟨_, rfl⟩
    rw [eG0, eG1, eND]
    have HE := Lib.hid (And.intro eG0 (And.intro eG1 eND))
    rw [eND] at hcd
    have hs2 : w.heap.size < w2.heap.size := cell_block T32.out.1
    have HFAR : Hid (∀ a, Ad = some a → a.block ≠ w.heap.size) := Lib.hid fun a ha => by have := (hfar a ha).1; omega
    have T33 := T32.out.bel hb3
    have HB3 := Lib.hid (HB2.out.trans hb3)
    have hs3 : w.heap.size < w3.heap.size := cell_block T33.1
    have hb4 : Bel w3 ((w3.alloc (.cells #[.int .i64 G0, .int .i64 G1] 35)).alloc (.cells #[.int .i64 0, .int .i64 0] 38)) := ((Bel.refl w3).alloc _).alloc _
    have T4 := Lib.hid (T33.bel hb4)
    have hbs : (w3.alloc (.cells #[.int .i64 G0, .int .i64 G1] 35)).heap.size = w3.heap.size + 1 := by simp
    have T6 := Two.new (w3.alloc (.cells #[.int .i64 G0, .int .i64 G1] 35)) 38 0 0
    rw [hbs] at T6
    have T5 := (Two.new w3 35 G0 G1).bel ((Bel.refl _).alloc (.cells #[.int .i64 0, .int .i64 0] 38))
    have HB4 := Lib.hid (HB3.out.trans hb4)
    have HRD := Lib.hid (And.intro hcd (And.intro (hrd.bel hb4).here hnil))
    have HTS : Hid (t = if G0 = 1 ∧ G1 = 2 then .ok s.done else .error (7, (n : Int))) := Lib.hid (by rw [← HT.out, ← eG0, ← eG1]; rfl)
    clear hb3 T33 hbs T32 HB3 hs3 HB2 HDD HO hcd hrd hnil hb4 eG0 eG1 eND HT hfar hs2
    go_wp2_with fail
    generalize (w3.alloc (.cells #[.int .i64 G0, .int .i64 G1] 35)).alloc (.cells #[.int .i64 0, .int .i64 0] 38) = w4 at *
    generalize w3.heap.size + 1 = N6 at *
    generalize w3.heap.size = N5 at *
    obtain ⟨a0, a1, a2, a3⟩ := T5
    obtain ⟨d0, d1, d2, d3⟩ := T6
    go_wp2_with fail
    by_cases hG : G0 = 1 ∧ G1 = 2
    · obtain ⟨rfl, rfl⟩ := hG
      have hneq : ∀ w, (binOp .neq 35 (.agg #[.int .i64 1, .int .i64 2]) (.agg #[.int .i64 1, .int .i64 2])).run Tryz.prog w = .ok (.bool false) w := fun w => by kernel_rfl
      go_region_with (go_at_call 26; (with_reducible refine (default_is _).mono ?_); rintro e w5 ⟨rfl, hb5⟩; have a0' := cell_bel (w := w4.drew) a0 hb5; have a1' := cell_bel (w := w4.drew) a1 hb5; have HB5 := Lib.hid (show Bel w w5 from HB4.out.trans (((Bel.refl w4).drew).trans hb5)); have T45 := Lib.hid (T4.out.bel (((Bel.refl w4).drew).trans hb5)); have HR5 := Lib.hid (HRD.out.2.1.bel (((Bel.refl w4).drew).trans hb5)))
      all_goals clear a0' a1' hb5 hneq T4 HB4
      all_goals obtain ⟨b0, b1, b2, b3⟩ := T45.out
      all_goals have TF := Lib.hid (T45.out.set 0 0)
      all_goals have HBF : Hid (Bel w ((w5.setCell ⟨w.heap.size, 0, none⟩ (.int .i64 0)).setCell ⟨w.heap.size, 1, none⟩ (.int .i64 0))) := Lib.hid ((HB5.out.setCell (by exact Nat.le_refl _) _).setCell (by exact Nat.le_refl _) _)
      all_goals clear T45 HB5
      all_goals go_wp2
      all_goals have HRF := Lib.hid (rd_set (HR5.out.here) HFAR.out 0 (.int .i64 0) |> fun h => rd_set h HFAR.out 1 (.int .i64 0))
      all_goals obtain ⟨t0, t1, _, _⟩ := TF.out
      all_goals clear TF
      all_goals revert HBF
      all_goals revert HRF
      all_goals revert t0
      all_goals revert t1
      all_goals generalize ((w5.setCell ⟨w.heap.size, 0, none⟩ (.int .i64 0)).setCell ⟨w.heap.size, 1, none⟩ (.int .i64 0)) = X
      all_goals intro t1 t0 HRF HBF
      all_goals refine bodyPost_ret (v := .tuple #[.slice Ad ND cd, .agg #[.int .i64 0, .int .i64 0]]) (by simp [results, Tryz.results14, go_sem, t0, t1]) rfl ?_
      all_goals rw [HTS.out, if_pos (by simp)]
      all_goals exact ⟨Ad, cd, by rw [HE.out.2.2], by rw [HE.out.2.2]; exact HRD.out.1, HRF.out.here, HRD.out.2.2, HBF.out⟩
    · have hneq : ∀ w, (binOp .neq 35 (.agg #[.int .i64 G0, .int .i64 G1]) (.agg #[.int .i64 1, .int .i64 2])).run Tryz.prog w = .ok (.bool true) w := fun w => by
        simp [go_sem]
        exact fun h1 h2 => hG ⟨h1, h2⟩
      go_region_with (go_at_call 26; (with_reducible refine (default_is _).mono ?_); rintro e w5 ⟨rfl, hb5⟩; have a0' := cell_bel (w := w4.drew) a0 hb5; have a1' := cell_bel (w := w4.drew) a1 hb5; have HB5 := Lib.hid (show Bel w w5 from HB4.out.trans (((Bel.refl w4).drew).trans hb5)); have T45 := Lib.hid (T4.out.bel (((Bel.refl w4).drew).trans hb5)); have HR5 := Lib.hid (HRD.out.2.1.bel (((Bel.refl w4).drew).trans hb5)))
      all_goals clear a0' a1' hb5 hneq T4 HB4
      all_goals obtain ⟨b0, b1, b2, b3⟩ := T45.out
      all_goals have TF := Lib.hid (T45.out.set 7 n)
      all_goals have HBF : Hid (Bel w ((w5.setCell ⟨w.heap.size, 0, none⟩ (.int .i64 7)).setCell ⟨w.heap.size, 1, none⟩ (.int .i64 n))) := Lib.hid ((HB5.out.setCell (by exact Nat.le_refl _) _).setCell (by exact Nat.le_refl _) _)
      all_goals clear T45 HB5
      all_goals go_wp2
      all_goals obtain ⟨t0, t1, _, _⟩ := TF.out
      all_goals clear TF
      all_goals revert HBF
      all_goals revert t0
      all_goals revert t1
      all_goals generalize ((w5.setCell ⟨w.heap.size, 0, none⟩ (.int .i64 7)).setCell ⟨w.heap.size, 1, none⟩ (.int .i64 n)) = X
      all_goals intro t1 t0 HBF
      all_goals refine bodyPost_ret (v := .tuple #[.slice none 0 0, .agg #[.int .i64 7, .int .i64 n]]) (by simp [results, Tryz.results14, go_sem, t0, t1]) rfl ?_
      all_goals rw [HTS.out, if_neg hG]
      all_goals exact ⟨rfl, HBF.out⟩
end Go.Proofs.YtphnahabonfmmaaGreatDoor.D
namespace Go.Proofs.YtphnahabonfmmaaGreatDoor.V
open Go.RowKit U
set_option linter.unusedVariables false

/-- An escape's cells. -/
def row3 (e : Esc) : List Value := [.string (str e.1), .int .i64 e.2.1, .int .i64 e.2.2]
theorem row3_len (e : Esc) : (row3 e).length = 3 := rfl
theorem flat3_len (l : List Esc) : (l.flatMap row3).length = l.length * 3 := by
  induction l with
  | nil => rfl
  | cons a l ih => rw [List.flatMap_cons, List.length_append, ih, row3_len, List.length_cons]; omega
theorem flat3 : ∀ (l : List Esc) (i : Nat) (x : Esc), l[i]? = some x → ∀ j, j < 3 → (l.flatMap row3)[i * 3 + j]? = (row3 x)[j]?
  | [], i, x, h, _, _ => by simp at h
  | y :: t, 0, x, h, j, hj => by
    simp at h
    subst h
    rw [List.flatMap_cons, List.getElem?_append_left (by rw [row3_len]; omega)]
    simp
  | y :: t, i + 1, x, h, j, hj => by
    simp at h
    rw [List.flatMap_cons, List.getElem?_append_right (by rw [row3_len]; omega), row3_len]
    rw [show (i + 1) * 3 + j - 3 = i * 3 + j by omega]
    exact flat3 t i x h j hj
theorem row3_one (l : List Esc) : ∀ u ∈ l.flatMap row3, u.oneCell' = true := fun u hu => by
  obtain ⟨e, _, h⟩ := List.mem_flatMap.1 hu
  simp [row3] at h
  rcases h with rfl | rfl | rfl <;> rfl

/-- A row of escapes of the call's own. -/
def EOwn (w : World) (base : Nat) (v : Value) (l : List Esc) : Prop := w.ownsRow base 72 3 v l.length (l.flatMap row3)
theorem EOwn.keep {w w' : World} {base : Nat} {v : Value} {l : List Esc} (h : EOwn w base v l) (hb : Bel w w') : EOwn w' base v l := by
  refine ⟨h.1, ?_⟩
  rcases h.2 with h | ⟨g, cap, cur, hv, hbg, hg, rest⟩
  · exact .inl h
  · exact .inr ⟨g, cap, cur, hv, hbg, by rw [hb.block g (Array.getElem?_eq_some_iff.1 hg).1]; exact hg, rest⟩

theorem info43 : (Tryz.prog.info? 72).map (fun i => (i.zero, i.size, i.bytes)) = some (some (.agg #[.string ⟨#[]⟩, .int .i64 0, .int .i64 0]), 3, 32) := by kernel_rfl

theorem run_append_e {w : World} {ty : TypeId} {base : Nat} {v : Value} {xs ys : List Esc} (hown : EOwn w base v xs) {g m c : Nat} (hm : ys.length = m)
    (hnews : ∀ j u, (ys.flatMap row3)[j]? = some u → w.cell? ⟨g, j, none⟩ = some u) (hn : xs.length + m ≤ 1000) (hbase : base ≤ w.heap.size) :
    ∃ v' w', (Builtin.append_ #[69, 69] ty #[v, .slice (some ⟨g, 0, none⟩) m c]).run Tryz.prog w = .ok v' w' ∧ EOwn w' base v' (xs ++ ys) ∧ Below base w w' := by
  obtain ⟨i0, hi0, hz0, hz1, hz2⟩ := info_parts info43
  obtain ⟨v', w', h1, h2, h3, _⟩ := run_append_own_at (P := Tryz.prog) w base 69 ty 72 i0 _ 3 32 Tryz.underlying69 hi0 hz0 hz1 hz2 rfl (by omega) v _ _ hown ⟨g, 0, none⟩ m c (ys.flatMap row3) (by rw [flat3_len, hm])
    (fun j u hu => by rw [addr_add, Nat.zero_add]; exact hnews j u hu) (row3_one ys) (by simp only [maxLen]; omega) (by omega) hbase
  refine ⟨v', w', h1, ?_, (Below.refl _ _).grown h3 hbase fun g hg => (World.ownsRow.lt hown g hg).1⟩
  unfold EOwn
  rw [List.length_append, List.flatMap_append, hm]
  exact h2
theorem wp_append_e {w : World} {o : Oper} {a : Act} {K : Act → World → Prop} {Q : Exit → Act → World → Prop} (s x : Operand)
    (ho : o.op = .call { callee := .builtin .append, args := #[s, x], argTypes := #[69, 69] })
    {base : Nat} {v : Value} {xs ys : List Esc} (hown : EOwn w base v xs) (hs : a.eval s = v) {g m c : Nat} (hx : a.eval x = .slice (some ⟨g, 0, none⟩) m c) (hm : ys.length = m)
    (hnews : ∀ j u, (ys.flatMap row3)[j]? = some u → w.cell? ⟨g, j, none⟩ = some u) (hn : xs.length + m ≤ 1000) (hbase : base ≤ w.heap.size)
    (h : ∀ v' w', EOwn w' base v' (xs ++ ys) → Below base w w' → K (a.put o.dst v') w') : o.wp Tryz.prog a w K Q := by
  obtain ⟨v', w', hrun, h2, h3⟩ := run_append_e (ty := o.type) (c := c) hown hm hnews hn hbase
  unfold Oper.wp execOp
  simp only [ho, resolve, invoke, builtin, Sem.run_bind, Sem.run_pure, Result.andThen_ok, List.map_toArray, List.map_cons, List.map_nil, hs, hx, hrun]
  exact h v' w' h2 h3
theorem wpl_append_e {w : World} {ops : Array Oper} {rest : List Oper} {o : Oper} {a : Act} {Q : Exit → Act → World → Prop} (hw : Region.wanted o (yielded ops a.tmps) = true) (s x : Operand)
    (ho : o.op = .call { callee := .builtin .append, args := #[s, x], argTypes := #[69, 69] })
    {base : Nat} {v : Value} {xs ys : List Esc} (hown : EOwn w base v xs) (hs : a.eval s = v) {g m c : Nat} (hx : a.eval x = .slice (some ⟨g, 0, none⟩) m c) (hm : ys.length = m)
    (hnews : ∀ j u, (ys.flatMap row3)[j]? = some u → w.cell? ⟨g, j, none⟩ = some u) (hn : xs.length + m ≤ 1000) (hbase : base ≤ w.heap.size)
    (h : ∀ v' w', EOwn w' base v' (xs ++ ys) → Below base w w' → wpList Tryz.prog ops Q rest (a.put o.dst v') w') : wpList Tryz.prog ops Q (o :: rest) a w :=
  BigFrame.wpList_want hw fun _ hK => wp_append_e s x ho hown hs hx hm hnews hn hbase fun v' w' h2 h3 => hK _ _ (h v' w' h2 h3)
theorem step_append_e {w : World} {ops : Array Oper} {o : Oper} {a : Act} {K : Act → World → Prop} {Q : Exit → Act → World → Prop} {E : Prop} (hgd : o.guard = none) (s x : Operand)
    (ho : o.op = .call { callee := .builtin .append, args := #[s, x], argTypes := #[69, 69] })
    {base : Nat} {v : Value} {xs ys : List Esc} (hown : EOwn w base v xs) (hs : a.eval s = v) {g m c : Nat} (hx : a.eval x = .slice (some ⟨g, 0, none⟩) m c) (hm : ys.length = m)
    (hnews : ∀ j u, (ys.flatMap row3)[j]? = some u → w.cell? ⟨g, j, none⟩ = some u) (hn : xs.length + m ≤ 1000) (hbase : base ≤ w.heap.size)
    (h : ∀ v' w', EOwn w' base v' (xs ++ ys) → Below base w w' → K (a.put o.dst v') w') :
    if Region.wanted o (yielded ops a.tmps) = true then Oper.wp Tryz.prog o a w K Q else E := by
  have hw : Region.wanted o (yielded ops a.tmps) = true := by simp [Region.wanted, hgd]
  rw [if_pos hw]
  exact wp_append_e s x ho hown hs hx hm hnews hn hbase h
/-- The cells of a block that was just made. -/
theorem news_made {w : World} {cs : Array Value} {ys : List Esc} {n : Nat} (hn : w.heap.size = n) (h : cs.toList = ys.flatMap row3) : ∀ j u, (ys.flatMap row3)[j]? = some u → (w.alloc (.cells cs 72)).cell? ⟨n, j, none⟩ = some u := fun j u hu => by
  subst hn
  refine (World.cell?_alloc_mark w cs 72 (0, 0) j).trans ?_
  rw [← h] at hu
  simpa using hu

/-- The row of last bytes. -/
def Lst (w : World) (G : Nat) : Prop := ∀ (j : Nat) (l : List Int), (lastT.take 9)[j]? = some l → w.cell? ⟨G, j, none⟩ = some (.string (str l))
theorem Lst.below {w w' : World} {G : Nat} (h : Lst w G) (hb : Below (G + 1) w w') : Lst w' G := fun j l hl => (hb.cell (p := ⟨G, j, none⟩) (Nat.lt_succ_self G)).trans (h j l hl)
theorem Lst.bel {w w' : World} {G : Nat} (h : Lst w G) (hb : Bel w w') : Lst w' G := fun j l hl => by
  have := h j l hl
  exact (Below.cell hb (p := ⟨G, j, none⟩) (cell_block this)).trans this

def EscRel (w : World) (G : Nat) (v i : Value) (w' : World) : Prop := ∃ m : Nat, i = .int .i64 m ∧ 1 ≤ m ∧ m ≤ 9 ∧ EOwn w' (G + 1) v (escs.take (4 * m - 4)) ∧ Lst w' G ∧ Bel w w' ∧ G < w'.heap.size
def EscPost (w : World) (e : Ending) (w' : World) : Prop := ∃ g cap, e = .returned (.slice (some ⟨g, 0, none⟩) 40 cap) ∧ 40 ≤ cap ∧ (∀ (k : Nat) (x : Esc), escs[k]? = some x → w'.cell? ⟨g, k * 3, none⟩ = some (.string (str x.1)) ∧ w'.cell? ⟨g, k * 3 + 1, none⟩ = some (.int .i64 x.2.1) ∧ w'.cell? ⟨g, k * 3 + 2, none⟩ = some (.int .i64 x.2.2)) ∧ Bel w w'

/-- One set's four escapes. -/
def four (m : Nat) (L : List Int) : List Esc := [([27, 40] ++ L, 0, m), ([27, 44] ++ L, 0, m), ([27, 41] ++ L, 1, m), ([27, 45] ++ L, 1, m)]
theorem four_next : ∀ m ∈ [1, 2, 3, 4, 5, 6, 7, 8], ∀ L, lastT[m]? = some L → escs.take (4 * (m + 1) - 4) = escs.take (4 * m - 4) ++ four m L ∧ (lastT.take 9)[m]? = some L := by decide +kernel
theorem str_add (a b : List Int) : str (a ++ b) = str a ++ str b := by
  unfold str
  rw [bs_append]
  simp [ByteArray.ext_iff]

end Go.Proofs.YtphnahabonfmmaaGreatDoor.V
namespace Go.Proofs.YtphnahabonfmmaaGreatDoor.V
open Go.RowKit U
set_option linter.unusedVariables false

theorem lst_made (w : World) : Lst (w.alloc (.cells #[.string ⟨#[]⟩, .string ⟨#[66]⟩, .string ⟨#[33, 69]⟩, .string ⟨#[83]⟩, .string ⟨#[50]⟩, .string ⟨#[51]⟩, .string ⟨#[52]⟩, .string ⟨#[78]⟩, .string ⟨#[81]⟩] 9)) w.heap.size := fun j l hl => by
  refine (World.cell?_alloc_mark w _ 9 (0, 0) j).trans ?_
  have h : ((lastT.take 9).map fun l => Value.string (str l))[j]? = some (Value.string (str l)) := by rw [List.getElem?_map, hl]; rfl
  have e : (lastT.take 9).map (fun l => Value.string (str l)) = [.string ⟨#[]⟩, .string ⟨#[66]⟩, .string ⟨#[33, 69]⟩, .string ⟨#[83]⟩, .string ⟨#[50]⟩, .string ⟨#[51]⟩, .string ⟨#[52]⟩, .string ⟨#[78]⟩, .string ⟨#[81]⟩] := by kernel_rfl
  rw [e] at h
  simpa using h
theorem lastT_get {m : Nat} (h : m ≤ 12) : ∃ L, lastT[m]? = some L := by
  have e : lastT.length = 13 := by decide
  exact ⟨lastT[m]'(by omega), by simp⟩
theorem keepE {w w' : World} {G m : Nat} {v : Value} (h : w.cell? ⟨G, m, none⟩ = some v) (hb : Below (G + 1) w w') : w'.cell? ⟨G, m, none⟩ = some v ∧ Below (G + 1) w w' :=
  ⟨(hb.cell (p := ⟨G, m, none⟩) (Nat.lt_succ_self G)).trans h, hb⟩
theorem four_cells (m : Nat) (L : List Int) : (#[.string (⟨#[27, 40]⟩ ++ str L), .int .i64 0, .int .i64 m, .string (⟨#[27, 44]⟩ ++ str L), .int .i64 0, .int .i64 m, .string (⟨#[27, 41]⟩ ++ str L), .int .i64 1, .int .i64 m, .string (⟨#[27, 45]⟩ ++ str L), .int .i64 1, .int .i64 m] : Array Value).toList = (four m L).flatMap row3 := by
  simp only [four, List.flatMap_cons, List.flatMap_nil, row3, str_add]
  rfl
theorem mem8 {m : Nat} (h0 : 1 ≤ m) (h1 : m ≤ 8) : m ∈ [1, 2, 3, 4, 5, 6, 7, 8] := by
  have : m = 1 ∨ m = 2 ∨ m = 3 ∨ m = 4 ∨ m = 5 ∨ m = 6 ∨ m = 7 ∨ m = 8 := by omega
  rcases this with rfl | rfl | rfl | rfl | rfl | rfl | rfl | rfl <;> decide

theorem esc_fin {w w' : World} {base : Nat} {v : Value} (h : EOwn w' base v (escs.take 32 ++ escs.drop 32)) (hb : Bel w w') : EscPost w (.returned v) w' := by
  rw [List.take_append_drop] at h
  rcases h.2 with ⟨_, h1⟩ | ⟨g, cap, cur, rfl, _, _, hc, _, _, _⟩
  · rw [escs_len] at h1; omega
  · have hcell : ∀ j u, (escs.flatMap row3)[j]? = some u → w'.cell? ⟨g, j, none⟩ = some u := fun j u hu => by
      have := World.ownsRow.cells h (g := g) rfl j u hu
      rwa [addr_add, Nat.zero_add] at this
    refine ⟨g, cap, by rw [escs_len], by rw [escs_len] at hc; exact hc, fun k x hx => ?_, hb⟩
    have f := fun j hj => flat3 escs k x hx j hj
    exact ⟨hcell _ _ (f 0 (by omega)), hcell _ _ (f 1 (by omega)), hcell _ _ (f 2 (by omega))⟩

set_option maxRecDepth 100000 in
set_option maxHeartbeats 4000000 in
theorem escapes_is (w : World) : Calls Tryz.prog 27 #[] w (EscPost w) := by
  have HL0 := Lib.hid (lst_made w)
  go_enter Tryz.func27, Tryz.ntmps27
  go_wp2
  go_loopw [1, 3] (fun v i wr => EscRel w w.heap.size v i wr) (fun _ i _ => 9 - (intOf i).toNat)
  case atStart => exact ⟨1, rfl, by omega, by omega, World.ownsRow_nil _ _ _ _, HL0.out, (Bel.refl w).alloc _, by simp⟩
  case round =>
    obtain ⟨m, rfl, h1, h9, hown, hlst, hb, hsz⟩ := hrel
    clear HL0
    by_cases hlt : m ≤ 8
    · obtain ⟨L, hL⟩ : ∃ L, lastT[m]? = some L := lastT_get (m := m) (by omega)
      obtain ⟨hn, hL9⟩ := four_next m (mem8 h1 hlt) L hL
      have hcell := hlst m L hL9
      have q0 : (0 : Int) ≤ (m : Int) := by omega
      have q1 : (m : Int) < 9 := by omega
      have q2 : (m : Int) ≤ 8 := by omega
      have hno : ¬ 9223372036854775807 < 2 + (str L).size := by
        have := (lasts_ok L (List.mem_of_getElem? hL)).2
        rw [str_size]; omega
      have HLEN : Hid ((escs.take (4 * m - 4)).length + 4 ≤ 1000) := Lib.hid (by rw [List.length_take, escs_len]; omega)
      have HO := Lib.hid hown
      have HN := Lib.hid hn
      have HLs := Lib.hid hlst
      have HB := Lib.hid hb
      have HS := Lib.hid hsz
      have HNW := Lib.hid (news_made (w := wr) (cs := #[.string (⟨#[27, 40]⟩ ++ str L), .int .i64 0, .int .i64 m, .string (⟨#[27, 44]⟩ ++ str L), .int .i64 0, .int .i64 m, .string (⟨#[27, 41]⟩ ++ str L), .int .i64 1, .int .i64 m, .string (⟨#[27, 45]⟩ ++ str L), .int .i64 1, .int .i64 m]) (ys := four m L) (n := wr.heap.size) rfl (four_cells m L))
      have HO2 := Lib.hid (HO.out.keep ((Bel.refl wr).alloc (.cells #[.string (⟨#[27, 40]⟩ ++ str L), .int .i64 0, .int .i64 m, .string (⟨#[27, 44]⟩ ++ str L), .int .i64 0, .int .i64 m, .string (⟨#[27, 41]⟩ ++ str L), .int .i64 1, .int .i64 m, .string (⟨#[27, 45]⟩ ++ str L), .int .i64 1, .int .i64 m] 72)).drew)
      have HBS : Hid (w.heap.size + 1 ≤ (wr.alloc (.cells #[.string (⟨#[27, 40]⟩ ++ str L), .int .i64 0, .int .i64 m, .string (⟨#[27, 44]⟩ ++ str L), .int .i64 0, .int .i64 m, .string (⟨#[27, 41]⟩ ++ str L), .int .i64 1, .int .i64 m, .string (⟨#[27, 45]⟩ ++ str L), .int .i64 1, .int .i64 m] 72)).drew.heap.size) := Lib.hid (by have := HS.out; simp; omega)
      clear hn hL hL9 hlst hown hb hsz h9
      go_wp2
      go_region_held3 (fun w' => w'.cell? ⟨w.heap.size, m, none⟩ = some (.string (str L)) ∧ Below (w.heap.size + 1) wr w')
        (first | assumption | exact keepE hcell ((Below.refl _ _).drew) | exact keepE hcell (((Below.refl _ _).alloc HS.out _).drew) | exact keepE hcell ((((Below.refl _ _).alloc HS.out _).drew).trans hb2))
        (first | (refine step_append_e (by rfl) (.tmp 9) (.tmp 38) (by rfl) HO2.out rfl rfl rfl HNW.out HLEN.out HBS.out ?_; intro v2 w2 hown2 hb2) | fail)
      have hB : Below (w.heap.size + 1) wr w2 := (((Below.refl _ _).alloc HS.out _).drew).trans hb2
      have HF : Hid (EscRel w w.heap.size v2 (.int .i64 ((m + 1 : Nat) : Int)) w2) := Lib.hid ⟨m + 1, rfl, by omega, by omega, by rw [HN.out]; exact hown2, HLs.out.below hB, Below.trans HB.out (Below.mono hB (Nat.le_succ _)), by have := HS.out; have := Below.size hB; omega⟩
      clear hown2 hb2 hB HO2 HNW HBS HO HN HLs HB HLEN
      go_wp2
      go_roundw
      case rel => exact HF.out
      case measure => simp [intOf]; omega
    · obtain rfl : m = 9 := by omega
      have HO2 := Lib.hid (hown.keep ((Bel.refl wr).alloc (.cells #[.string ⟨#[27, 36, 49]⟩, .int .i64 0, .int .i64 9, .string ⟨#[27, 36, 44, 49]⟩, .int .i64 0, .int .i64 9, .string ⟨#[27, 36, 41, 49]⟩, .int .i64 1, .int .i64 9, .string ⟨#[27, 36, 45, 49]⟩, .int .i64 1, .int .i64 9, .string ⟨#[27, 98]⟩, .int .i64 0, .int .i64 10, .string ⟨#[27, 112]⟩, .int .i64 0, .int .i64 11, .string ⟨#[27, 103]⟩, .int .i64 0, .int .i64 12, .string ⟨#[27, 115]⟩, .int .i64 0, .int .i64 1] 72)))
      have HNW := Lib.hid (news_made (w := wr) (cs := #[.string ⟨#[27, 36, 49]⟩, .int .i64 0, .int .i64 9, .string ⟨#[27, 36, 44, 49]⟩, .int .i64 0, .int .i64 9, .string ⟨#[27, 36, 41, 49]⟩, .int .i64 1, .int .i64 9, .string ⟨#[27, 36, 45, 49]⟩, .int .i64 1, .int .i64 9, .string ⟨#[27, 98]⟩, .int .i64 0, .int .i64 10, .string ⟨#[27, 112]⟩, .int .i64 0, .int .i64 11, .string ⟨#[27, 103]⟩, .int .i64 0, .int .i64 12, .string ⟨#[27, 115]⟩, .int .i64 0, .int .i64 1]) (ys := escs.drop 32) (n := wr.heap.size) rfl (by kernel_rfl))
      have HBS : Hid (w.heap.size + 1 ≤ (wr.alloc (.cells #[.string ⟨#[27, 36, 49]⟩, .int .i64 0, .int .i64 9, .string ⟨#[27, 36, 44, 49]⟩, .int .i64 0, .int .i64 9, .string ⟨#[27, 36, 41, 49]⟩, .int .i64 1, .int .i64 9, .string ⟨#[27, 36, 45, 49]⟩, .int .i64 1, .int .i64 9, .string ⟨#[27, 98]⟩, .int .i64 0, .int .i64 10, .string ⟨#[27, 112]⟩, .int .i64 0, .int .i64 11, .string ⟨#[27, 103]⟩, .int .i64 0, .int .i64 12, .string ⟨#[27, 115]⟩, .int .i64 0, .int .i64 1] 72)).heap.size) := Lib.hid (by simp; omega)
      have HB := Lib.hid hb
      have HS := Lib.hid hsz
      clear hown hlst hb hsz
      go_wp2_with (first
        | (at_builtin; refine wpl_append_e (by rfl) (.tmp 40) (.tmp 49) rfl HO2.out rfl rfl rfl HNW.out (by decide) HBS.out ?_; intro v2 w2 hown2 hb2)
        | fail)
      go_ret
      exact esc_fin hown2 (Below.trans HB.out (Below.mono (((Below.refl _ _).alloc HS.out _).trans hb2) (Nat.le_succ _)))
end Go.Proofs.YtphnahabonfmmaaGreatDoor.V
namespace Go.Proofs.YtphnahabonfmmaaGreatDoor.V
open Go.RowKit U
set_option linter.unusedVariables false

/-- The escapes lie in block g. -/
def Ec (w : World) (g : Nat) : Prop := ∀ (k : Nat) (x : Esc), escs[k]? = some x → w.cell? ⟨g, k * 3, none⟩ = some (.string (str x.1)) ∧ w.cell? ⟨g, k * 3 + 1, none⟩ = some (.int .i64 x.2.1) ∧ w.cell? ⟨g, k * 3 + 2, none⟩ = some (.int .i64 x.2.2)
theorem Ec.bel {w w' : World} {g : Nat} (h : Ec w g) (hb : Bel w w') : Ec w' g := fun k x hx => by
  obtain ⟨h0, h1, h2⟩ := h k x hx
  exact ⟨(Below.cell hb (p := ⟨g, k * 3, none⟩) (cell_block h0)).trans h0, (Below.cell hb (p := ⟨g, k * 3 + 1, none⟩) (cell_block h1)).trans h1, (Below.cell hb (p := ⟨g, k * 3 + 2, none⟩) (cell_block h2)).trans h2⟩

/-- The best one as yet. -/
def BestIs (w : World) (v : Value) : Option (List Int) → Prop
  | none => v = .slice none 0 0
  | some l => ∃ g n cap, l.length = n ∧ v = .slice (some ⟨g, 0, none⟩) n cap ∧ n ≤ cap ∧ Rd w w.heap.size .u8 (some ⟨g, 0, none⟩) l
theorem BestIs.bel {w w' : World} {v : Value} {b : Option (List Int)} (h : BestIs w v b) (hb : Bel w w') : BestIs w' v b := by
  rcases b with _ | l
  · exact h
  · obtain ⟨g, n, cap, h1, h2, h3, h4⟩ := h
    exact ⟨g, n, cap, h1, h2, h3, (h4.bel hb).here⟩
def BestRel (W : World) (side set : Int) (v i : Value) (w : World) : Prop := ∃ k : Nat, i = .int .i64 k ∧ k ≤ 40 ∧ BestIs w v (bestOf side set (escs.take k)) ∧ Bel W w
def RDesPost (w : World) (b : Option (List Int)) (e : Ending) (w' : World) : Prop := ∃ v ok, e = .returned (.tuple #[v, .bool ok]) ∧ b.isSome = ok ∧ BestIs w' v b ∧ Bel w w'

theorem run_bytes_cap (w : World) {l : List Int} {n : Nat} (h : ∀ x ∈ l, 0 ≤ x ∧ x < 256) (hl : l.length = n) :
    ∃ cap w', (convert 9 33 (.string (str l))).run Tryz.prog w = .ok (.slice (some ⟨w.heap.size, 0, none⟩) n cap) w' ∧ Rd w' (w.heap.size + 1) .u8 (some ⟨w.heap.size, 0, none⟩) l ∧ Bel w w' ∧ n ≤ cap := by
  have hrun := run_bytes_of_string (P := Tryz.prog) w 9 33 5 (str l) Tryz.underlying9 Tryz.underlying33 Tryz.underlying5
  rw [str_size, hl] at hrun
  obtain ⟨cap, w', h1, h2, h3⟩ := run_bytes_str (P := Tryz.prog) w 9 33 5 Tryz.underlying9 Tryz.underlying33 Tryz.underlying5 h hl
  refine ⟨cap, w', h1, h2, h3, ?_⟩
  rw [hrun] at h1
  have := grownCap_ge w n 0 5
  injection h1 with h4
  injection h4 with h5 h6 h7
  omega

theorem neq_nil (w : World) : (binOp .neq 33 (.slice none 0 0) (.slice none 0 0)).run Tryz.prog w = .ok (.bool false) w := by kernel_rfl
theorem neq_some (w : World) (g n c : Nat) : (binOp .neq 33 (.slice (some ⟨g, 0, none⟩) n c) (.slice none 0 0)).run Tryz.prog w = .ok (.bool true) w := by kernel_rfl
set_option maxRecDepth 100000 in
set_option maxHeartbeats 4000000 in
theorem rdes_is (side set : Int) (b : Option (List Int)) (w : World) (hb : bestOf side set escs = b) : Calls Tryz.prog 15 #[.int .i64 side, .int .i64 set] w (RDesPost w b) := by
  have HB := Lib.hid hb
  clear hb
  go_enter Tryz.func15, Tryz.ntmps15
  go_wp2_with (go_at_call 27; (with_reducible refine (escapes_is _).mono ?_); rintro e w1 ⟨g, cap, rfl, hcap, hE, hb1⟩)
  have HE : Hid (Ec w1 g) := Lib.hid hE
  clear hE
  go_loopw [6, 8] (fun v i wr => BestRel w1 side set v i wr) (fun _ i _ => 40 - (intOf i).toNat)
  case atStart => exact ⟨0, rfl, by omega, rfl, Bel.refl _⟩
  case round =>
    obtain ⟨k, rfl, hk, hbest, hbw⟩ := hrel
    by_cases hlt : k < 40
    · obtain ⟨⟨B, s, t⟩, hx⟩ := escs_at hlt
      obtain ⟨d0, d1, d2⟩ := HE.out.bel hbw k _ hx
      dsimp only at d0 d1 d2
      have hok := (escs_ok _ (List.mem_of_getElem? hx))
      dsimp only at hok
      have HX := Lib.hid (bestOf_next (side := side) (set := set) hx)
      have q0 : (0 : Int) ≤ (k : Int) := by omega
      have q1 : (k : Int) < 40 := by omega
      have HBW := Lib.hid hbw
      by_cases hs : s = side
      · by_cases ht : t = set
        · subst hs ht
          have e1 : (s == s) = true := by simp
          have e2 : (t == t) = true := by simp
          obtain ⟨n, hn⟩ : ∃ n, B.length = n := ⟨_, rfl⟩
          generalize bestOf s t (escs.take k) = best at hbest HX
          rcases best with _ | l
          · obtain rfl : u6 = .slice none 0 0 := hbest
            obtain ⟨cap1, w2, hrun, hrd, hb2, hc1⟩ := run_bytes_cap wr hok.1 hn
            have hR : BestIs w2 (.slice (some ⟨wr.heap.size, 0, none⟩) n cap1) (bestOf s t (escs.take (k + 1))) := by
              rw [HX.out]
              simp only [better, and_self, if_true]
              exact ⟨_, n, cap1, hn, rfl, hc1, hrd.here⟩
            have HR := Lib.hid hR
            have HB2 := Lib.hid (hbw.trans hb2)
            clear hR hrd hb2 hok HX hbw
            go_wp2
            rename_i hK
            refine hK _ _ ?_
            show wpList _ _ _ _ (Act.put _ _ (.bool true)) _
            go_wp2
            go_roundw
            case rel => exact ⟨k + 1, by go_num, by omega, HR.out, HB2.out⟩
            case measure => simp [intOf]; omega
          · obtain ⟨g2, n2, c2, hl2, rfl, hc2, hr2⟩ := hbest
            obtain ⟨cap1, w2, hrun, hrd, hb2, hc1⟩ := run_bytes_cap wr hok.1 hn
            obtain ⟨b0, hb0⟩ : ∃ b0, lessB B l = b0 := ⟨_, rfl⟩
            have HL := Lib.hid (less_is (some ⟨wr.heap.size, 0, none⟩) (some ⟨g2, 0, none⟩) n n2 cap1 c2 B l _ _ b0 w2 hrd (hr2.bel hb2) hn hl2 (by rw [← hn]; have := hok.2.2.1; omega) hb0)
            obtain ⟨f0, _, _⟩ := HE.out.bel (hbw.trans hb2) k _ hx
            dsimp only at f0
            have HB2 := Lib.hid (hbw.trans hb2)
            have HOK := Lib.hid hok.1
            have HNN := Lib.hid hn
            have HXX : Hid (better s t (some l) (B, s, t) = if b0 = true then some B else some l) := Lib.hid (by simp [better, hb0])
            have HBest := Lib.hid (show BestIs w2 (.slice (some ⟨g2, 0, none⟩) n2 c2) (some l) from ⟨g2, n2, c2, hl2, rfl, hc2, (hr2.bel hb2).here⟩)
            clear hrd hb2 hok hbw hl2 hr2 hb0 hn hx
            go_wp2
            rename_i hK
            refine hK _ _ ?_
            show wpList _ _ _ _ (Act.put _ _ (.bool false)) _
            go_wp2_with fail
            refine HL.out.mono ?_
            rintro e w3 ⟨rfl, q, rfl⟩
            clear HL
            rcases b0 with _ | _
            · have HR : Hid (BestIs (w2.drewN q) (.slice (some ⟨g2, 0, none⟩) n2 c2) (bestOf s t (escs.take (k + 1)))) := Lib.hid (by
                rw [HX.out, HXX.out, if_neg (by simp)]
                exact HBest.out.bel ((Bel.refl w2).drewN q))
              clear HBest HX HXX
              go_wp2
              go_roundw
              case rel => exact ⟨k + 1, by go_num, by omega, HR.out, HB2.out.drewN q⟩
              case measure => simp [intOf]; omega
            · obtain ⟨cap3, w4, hrun3, hrd3, hb3, hc3⟩ := run_bytes_cap (w2.drewN q) HOK.out HNN.out
              have HR : Hid (BestIs w4 (.slice (some ⟨(w2.drewN q).heap.size, 0, none⟩) n cap3) (bestOf s t (escs.take (k + 1)))) := Lib.hid (by
                rw [HX.out, HXX.out, if_pos rfl]
                exact ⟨_, n, cap3, HNN.out, rfl, hc3, hrd3.here⟩)
              have HB4 := Lib.hid ((HB2.out.drewN q).trans hb3)
              clear HBest HX HXX hrd3 hb3
              go_wp2
              go_roundw
              case rel => exact ⟨k + 1, by go_num, by omega, HR.out, HB4.out⟩
              case measure => simp [intOf]; omega
        · subst hs
          have e1 : (s == s) = true := by simp
          have e2 : (t == set) = false := by simpa using ht
          have HR : Hid (BestIs wr u6 (bestOf s set (escs.take (k + 1)))) := Lib.hid (by
            rw [HX.out]
            unfold better
            rw [if_neg (by rintro ⟨_, h⟩; exact ht h)]
            exact hbest)
          clear hbest hbw HX hok hx ht
          go_wp2
          go_roundw
          case rel => exact ⟨k + 1, by go_num, by omega, HR.out, HBW.out⟩
          case measure => simp [intOf]; omega
      · have e1 : (s == side) = false := by simpa using hs
        have HR : Hid (BestIs wr u6 (bestOf side set (escs.take (k + 1)))) := Lib.hid (by
          rw [HX.out]
          unfold better
          rw [if_neg (by rintro ⟨h, _⟩; exact hs h)]
          exact hbest)
        clear hbest hbw HX hok hx hs
        go_wp2
        go_roundw
        case rel => exact ⟨k + 1, by go_num, by omega, HR.out, HBW.out⟩
        case measure => simp [intOf]; omega
    · obtain rfl : k = 40 := by omega
      rw [List.take_of_length_le (by rw [escs_len]; omega), HB.out] at hbest
      clear HE HB
      rcases b with _ | l
      · obtain rfl : u6 = .slice none 0 0 := hbest
        have r3 := neq_nil wr
        go_wp2
        go_ret2
        exact ⟨_, _, rfl, rfl, rfl, hb1.trans hbw⟩
      · obtain ⟨g2, n, c2, h1, rfl, h3, h4⟩ := hbest
        have r3 := neq_some wr g2 n c2
        go_wp2
        go_ret2
        exact ⟨_, _, rfl, rfl, ⟨g2, n, c2, h1, rfl, h3, h4⟩, hb1.trans hbw⟩
end Go.Proofs.YtphnahabonfmmaaGreatDoor.V
namespace Go.Proofs.YtphnahabonfmmaaGreatDoor.D
open Go.RowKit U V
set_option linter.unusedVariables false

set_option maxHeartbeats 1000000 in
theorem runes_any (A B : Option Addr) (n m c d : Nat) (xs ys : List Int) (B1 B2 : Nat) (w : World) (hA : Rd w B1 .i32 A xs) (hB : Rd w B2 .i32 B ys) (hn : xs.length = n) (hm : ys.length = m) (hn' : n ≤ 1099511627776) :
    Calls Tryz.prog 13 #[.slice A n c, .slice B m d] w (V.Quiet w (decide (xs = ys))) := by
  have HN := Lib.hid hn
  have HM := Lib.hid hm
  have HA := Lib.hid hA
  have HB := Lib.hid hB
  clear hn hm hA hB
  by_cases hnm : n = m
  · subst hnm
    have hq : ((n : Int) != (n : Int)) = false := by simp
    go_enter Tryz.func13, Tryz.ntmps13
    go_wp2
    go_loopw [5] (fun i wr => V.SameRel w xs ys i wr) (fun i _ => n - (intOf i).toNat)
    case atStart => exact ⟨0, 0, rfl, Nat.zero_le _, rfl, by simp⟩
    case round =>
      obtain ⟨k, q, rfl, hk, rfl, heq⟩ := hrel
      rw [HN.out] at hk
      have HE := Lib.hid heq
      clear heq
      by_cases hlt : k < n
      · obtain ⟨x, hx⟩ : ∃ x, xs[k]? = some x := ⟨xs[k]'(by rw [HN.out]; exact hlt), by simp⟩
        obtain ⟨y, hy⟩ : ∃ y, ys[k]? = some y := ⟨ys[k]'(by rw [HM.out]; exact hlt), by simp⟩
        obtain ⟨g1, o1, rfl, hg1, hc1⟩ := HA.out k x hx
        obtain ⟨g2, o2, rfl, hg2, hc2⟩ := HB.out k y hy
        have HX := Lib.hid hx
        have HY := Lib.hid hy
        clear hx hy
        have hi1 : (0 : Int) ≤ (k : Int) := by omega
        have hi2 : (k : Int) < (n : Int) := by omega
        by_cases hxy : x = y
        · subst hxy
          have hne : (x != x) = false := by simp
          go_wp2
          go_quiet (fail)
          go_wp2
          go_roundw
          case rel => exact ⟨k + 1, _, by go_num, by rw [HN.out]; omega, rfl, take_more HE.out HX.out HY.out⟩
          case measure => simp [intOf]; omega
        · have hne : (x != y) = true := by simpa using hxy
          have hd : decide (xs = ys) = false := by
            simp only [decide_eq_false_iff_not]
            intro e
            have h1 := HX.out
            rw [e, HY.out] at h1
            exact hxy (by simpa using h1.symm)
          have HD := Lib.hid hd
          clear hd
          go_wp2
          go_quiet (fail)
          go_wp2
          go_ret
          exact ⟨by rw [HD.out]; rfl, _, World.drewN_drewN _ _ _⟩
      · have hd : decide (xs = ys) = true := by
          simp only [decide_eq_true_eq]
          have h1 := HE.out
          obtain rfl : k = n := by omega
          rwa [List.take_of_length_le (by rw [HN.out]; omega), List.take_of_length_le (by rw [HM.out]; omega)] at h1
        have HD := Lib.hid hd
        clear hd
        go_wp2
        go_ret
        exact ⟨by rw [HD.out]; rfl, _, rfl⟩
  · have hq : ((n : Int) != (m : Int)) = true := by simp; omega
    have hd : decide (xs = ys) = false := by
      simp only [decide_eq_false_iff_not]
      intro e
      have h1 := HN.out
      rw [e, HM.out] at h1
      exact hnm h1.symm
    have HD := Lib.hid hd
    clear hd
    go_enter Tryz.func13, Tryz.ntmps13
    go_wp2
    go_ret
    exact ⟨by rw [HD.out]; rfl, 0, rfl⟩

theorem runes_is (A B : Option Addr) (n m c d : Nat) (xs ys : List Int) (B1 B2 : Nat) (b : Bool) (w : World) (hA : Rd w B1 .i32 A xs) (hB : Rd w B2 .i32 B ys) (hn : xs.length = n) (hm : ys.length = m) (hn' : n ≤ 1099511627776) (hb : decide (xs = ys) = b) :
    Calls Tryz.prog 13 #[.slice A n c, .slice B m d] w (V.Quiet w b) := by
  subst hb; exact runes_any A B n m c d xs ys B1 B2 w hA hB hn hm hn'



theorem runes_bel {w w' : World} {b : Bool} {e : Ending} (h : V.Quiet w b e w') : e = .returned (.bool b) ∧ Bel w w' := by
  obtain ⟨h1, m, rfl⟩ := h
  exact ⟨h1, (Bel.refl w).drewN m⟩

theorem ans_txt : txt [226, 101] = .ok [101, 769] := by kernel_rfl
theorem esc_alone : ∀ n : Nat, 3 ≤ n → n < 9 → dec (desL 0 (n : Int)) 1 2 = .ok ⟨(n : Int), 2, [], [], 0⟩ ∧ dec [27, 115] (n : Int) 2 = .ok ⟨1, 2, [], [], 0⟩ := by
  intro n h3 h9
  obtain rfl | rfl | rfl | rfl | rfl | rfl : n = 3 ∨ n = 4 ∨ n = 5 ∨ n = 6 ∨ n = 7 ∨ n = 8 := by omega
  all_goals exact ⟨by kernel_rfl, by kernel_rfl⟩
theorem like_ok {x : List Int} {d : Int} {s : St} {o : Out} (h : LikeO x d (.ok s) o) : ∃ t, o = .ok t ∧ Like x d s t := by
  rcases o with f | t
  · exact h.elim
  · exact ⟨t, rfl, h⟩
/-- A text, an escape behind it, and the one to the usual set behind that. -/
theorem shut_txt {l d : List Int} (h : txt l = .ok d) (n : Nat) (h3 : 3 ≤ n) (h9 : n < 9) :
    txt (l ++ desL 0 (n : Int)) = .error (7, ((l ++ desL 0 (n : Int)).length : Int)) ∧ txt (l ++ desL 0 (n : Int) ++ [27, 115]) = .ok d := by
  unfold txt at h ⊢
  rcases hd : dec l 1 2 with f | s
  · rw [hd] at h
    cases h
  · rw [hd] at h
    simp only [textO] at h
    split at h
    · rename_i hg
      obtain ⟨g0, g1⟩ := hg
      obtain rfl : s.done = d := by simpa using h
      have h1 := dec_joins (b := desL 0 (n : Int)) hd
      rw [g0, g1, (esc_alone n h3 h9).1] at h1
      obtain ⟨t, ht, k0, k1, k2, k3, k4⟩ := like_ok h1
      dsimp only at k0 k1 k2 k3
      have h2 := dec_joins (b := [27, 115]) ht
      rw [k0, k1, (esc_alone n h3 h9).2] at h2
      obtain ⟨t', ht', m0, m1, m2, m3, m4⟩ := like_ok h2
      dsimp only at m0 m1 m2
      rw [ht, ht']
      simp only [textO]
      rw [if_neg (by rw [k0]; omega), if_pos ⟨m0, m1⟩, m2, k2]
      simp
    · cases h

def AnsP (w : World) (e : Ending) (w' : World) : Prop := e = .returned (.bool true) ∧ Bel w w'
set_option maxRecDepth 100000 in
set_option maxHeartbeats 4000000 in
theorem answers_any (w : World) (hZ : Dz w) : Calls Tryz.prog 11 #[] w (AnsP w) := by
  have hb0 := (Bel.refl w).alloc (.cells #[.int .u8 226, .int .u8 101] 5)
  have HT := Lib.hid (text_is (some ⟨w.heap.size, 0, none⟩) 2 2 [226, 101] _ _ (hZ.bel hb0) (V.rd_lit (l := [226, 101]) (k := .u8) (t := 5) rfl).here rfl (by omega) (by omega) (by decide) ans_txt)
  have HB0 := Lib.hid hb0
  clear hb0 hZ
  go_enter Tryz.func11, Tryz.ntmps11
  go_wp2_with fail
  with_reducible refine HT.out.mono ?_
  rintro e w2 ⟨A, cap, he, hc, hr, hnil, hb2⟩
  obtain rfl : e = .returned (.tuple #[.slice A 2 cap, .agg #[.int .i64 0, .int .i64 0]]) := he
  have hb3 := (Bel.refl w2).alloc (.cells #[.int .i64 0, .int .i64 0] 38)
  have hr3 := hr.bel hb3
  obtain ⟨g, off, rfl, hg, hc0⟩ := hr3 0 101 rfl
  have hc1 := hr3.at (i := 1) (x := 769) rfl
  rw [Nat.add_zero] at hc0
  have HBF := Lib.hid ((HB0.out.trans hb2).trans hb3)
  clear hr hb2 hb3 hr3 hnil HT HB0
  go_wp2
  go_ret
  exact ⟨rfl, HBF.out⟩
end Go.Proofs.YtphnahabonfmmaaGreatDoor.D
namespace Go.Proofs.YtphnahabonfmmaaGreatDoor.D
open Go.RowKit U V
set_option linter.unusedVariables false

theorem info8 : (Tryz.prog.info? 5).map (fun i => (i.zero, i.size, i.bytes)) = some (some (.int .u8 0), 1, 1) := by kernel_rfl
theorem txt_err {l : List Int} {f : Int × Int} (h : txt l = .error f) : f.1 ≠ 0 := by
  unfold txt at h
  rcases hd : dec l 1 2 with g | s
  · rw [hd] at h
    cases h
    have := dec_err hd
    omega
  · rw [hd] at h
    simp only [textO] at h
    split at h
    · cases h
    · cases h
      exact fun h0 => by cases h0
theorem run_len : ∀ (k : Nat) {l : List Int} {p : Int} {s s' : St}, run k l p s = .ok s' → s'.done.length + s'.marks.length ≤ s.done.length + s.marks.length + l.length
  | 0, l, p, s, s', h => by
    obtain rfl : s = s' := by simpa [run] using h
    omega
  | k + 1, l, p, s, s', h => by
    by_cases hl : l = []
    · subst hl
      rw [run_nil] at h
      obtain rfl : s = s' := by simpa using h
      omega
    · rcases hs : step l p s with g | ⟨n, s1⟩
      · rw [run_bad hl hs] at h
        cases h
      · rw [run_next hl hs] at h
        have h1 := run_len k h
        have h2 := step_len hs
        have h3 := step_size hl hs
        rw [List.length_drop] at h1
        omega
theorem dec_len {l : List Int} {g0 g1 : Int} {s : St} (h : dec l g0 g1 = .ok s) : s.done.length ≤ l.length := by
  have := run_len _ (dec_ok h).2.1
  simp only [List.length_nil] at this
  omega
theorem txt_len {l d : List Int} (h : txt l = .ok d) : d.length ≤ l.length := by
  unfold txt at h
  rcases hd : dec l 1 2 with g | s
  · rw [hd] at h
    cases h
  · rw [hd] at h
    simp only [textO] at h
    split at h
    · obtain rfl : s.done = d := by simpa using h
      exact dec_len hd
    · cases h
theorem des_best (set : Int) (h1 : 1 ≤ set) (h9 : set ≤ 9) : bestOf 0 set escs = some (desL 0 set) ∧ (∀ x ∈ desL 0 set, 0 ≤ x ∧ x < 256) ∧ (desL 0 set).length ≤ 4 := by
  have hv : Valid 0 set := ⟨.inl rfl, h1, by omega, fun h => by omega⟩
  have := pairs_ok _ (valid_mem hv)
  exact ⟨this.1, this.2.1, this.2.2.2.1⟩

set_option maxRecDepth 100000 in
set_option maxHeartbeats 8000000 in
theorem shut_any (A : Option Addr) (n cap : Nat) (l : List Int) (z : Int) (w : World) (hZ : Dz w) (hA : Rd w w.heap.size .u8 A l) (hn : l.length = n) (hc : n ≤ cap) (hnil : A = none → cap = 0) (hn' : n ≤ 1099511627775) (hb : ∀ x ∈ l, 0 ≤ x ∧ x < 256) (hz0 : 0 ≤ z) (hz1 : z < 256) :
    Calls Tryz.prog 6 #[.slice A n cap, .int .u8 z] w (AnsP w) := by
  obtain ⟨i0, hi0, hi1, hi2, hi3⟩ := info_parts info8
  obtain ⟨t, ht⟩ : ∃ t, txt l = t := ⟨_, rfl⟩
  have HT := Lib.hid (text_is A n cap l t w hZ hA hn hc hn' hb ht)
  have HZ := Lib.hid hZ
  have HTX := Lib.hid ht
  have HA := Lib.hid hA
  have HN := Lib.hid hn
  have HNIL := Lib.hid hnil
  have HBY := Lib.hid hb
  clear hZ hA hn hnil hb ht
  go_enter Tryz.func6, Tryz.ntmps6
  go_wp2_with fail
  with_reducible refine HT.out.mono ?_
  rintro e w1 hp
  rcases t with ⟨x, y⟩ | d
  · obtain ⟨he, hb1⟩ := hp
    dsimp only at he
    subst he
    have hne := txt_err HTX.out
    dsimp only at hne
    have q0 : (x != 0) = true := by simpa using hne
    have hb2 := hb1.alloc (.cells #[.int .i64 x, .int .i64 y] 38)
    have HB2 := Lib.hid hb2
    have HAN := Lib.hid (answers_any _ (HZ.out.bel hb2))
    clear hne hb1 hb2 HT
    by_cases h3 : 300 < n
    · have q1 : (300 : Int) < (n : Int) := by omega
      go_wp2_with (go_at_call 11; (with_reducible refine HAN.out.mono ?_); rintro e w3 ⟨rfl, hb3⟩)
      go_ret
      exact ⟨rfl, HB2.out.trans hb3⟩
    · have q1 : ¬ (300 : Int) < (n : Int) := by omega
      go_wp2_with (go_at_call 11; (with_reducible refine HAN.out.mono ?_); rintro e w3 ⟨rfl, hb3⟩)
      go_ret
      exact ⟨rfl, HB2.out.trans hb3⟩
  · obtain ⟨Ad, cd, he, hcd, hrd, hdn, hb1⟩ := hp
    subst he
    obtain ⟨ND, hND⟩ : ∃ ND, d.length = ND := ⟨_, rfl⟩
    rw [hND] at hcd ⊢
    have hb2 := hb1.alloc (.cells #[.int .i64 0, .int .i64 0] 38)
    have HB2 := Lib.hid hb2
    have HND := Lib.hid hND
    have HRD := Lib.hid (And.intro (hrd.bel ((Bel.refl w1).alloc (.cells #[.int .i64 0, .int .i64 0] 38))).here hdn)
    by_cases h3 : 300 < n
    · have q1 : (300 : Int) < (n : Int) := by omega
      have HAN := Lib.hid (answers_any _ (HZ.out.bel hb2))
      clear hb1 hb2 HT hrd hdn hND
      go_wp2_with (go_at_call 11; (with_reducible refine HAN.out.mono ?_); rintro e w3 ⟨rfl, hb3⟩)
      go_ret
      exact ⟨rfl, HB2.out.trans hb3⟩
    · have q1 : ¬ (300 : Int) < (n : Int) := by omega
      obtain ⟨k, hk⟩ : ∃ k : Nat, z % 6 = (k : Int) := ⟨(z % 6).toNat, by omega⟩
      have hk6 : k < 6 := by omega
      obtain ⟨hE, hEb, hE4⟩ := des_best (3 + (k : Int)) (by omega) (by omega)
      obtain ⟨hS1, hS2⟩ := shut_txt HTX.out (3 + k) (by omega) (by omega)
      rw [show (((3 + k : Nat)) : Int) = 3 + (k : Int) by omega] at hS1 hS2
      generalize desL 0 (3 + (k : Int)) = E at *
      have HD1 := Lib.hid (fun w => rdes_is 0 (3 + (k : Int)) _ w hE)
      have HD2 := Lib.hid (fun w => rdes_is 0 1 _ w (show bestOf 0 1 escs = some [27, 115] from (des_best 1 (by omega) (by omega)).1))
      have HS := Lib.hid (And.intro hS1 hS2)
      have HE := Lib.hid (And.intro hEb hE4)
      have hrem : z.tmod 6 = (k : Int) := by rw [← hk]; exact Int.tmod_eq_emod_of_nonneg hz0
      have hkb : (0 : Int) ≤ (k : Int) := by omega
      have hkc : (k : Int) < 6 := by omega
      have HNN := Lib.hid (show n ≤ 300 by omega)
      clear hb1 hb2 HT hrd hdn hND hE hEb hE4 hS1 hS2 h3 hk6 hz0 hz1
      go_wp2_with fail
      generalize w1.alloc (.cells #[.int .i64 0, .int .i64 0] 38) = W2 at *
      with_reducible refine (HD1.out _).mono ?_
      rintro e w3 ⟨v3, ok3, rfl, hok3, ⟨g3, m3, c3, hl3, rfl, hc3, hr3⟩, hb3⟩
      obtain rfl : ok3 = true := hok3.symm
      have HM3 := Lib.hid hl3
      have HB3 := Lib.hid (HB2.out.trans hb3)
      have HR3 := Lib.hid hr3
      have HRD3 := Lib.hid (HRD.out.1.bel hb3)
      clear hok3 hl3 hr3 hb3 HD1 HB2
      go_wp2_with fail
      with_reducible refine (HD2.out _).mono ?_
      rintro e w4 ⟨v4, ok4, rfl, hok4, ⟨g4, m4, c4, hl4, rfl, hc4, hr4⟩, hb4⟩
      obtain rfl : ok4 = true := hok4.symm
      obtain rfl : m4 = 2 := hl4.symm
      have HB4 := Lib.hid (HB3.out.trans hb4)
      have HR4 := Lib.hid hr4
      have HR34 := Lib.hid (HR3.out.bel hb4)
      have HRD4 := Lib.hid (HRD3.out.bel hb4)
      clear hok4 hl4 hr4 hb4 HD2 HB3 HR3 HRD3
      have hba := (Bel.refl w4).alloc (.cells #[] 5)
      have HO4 := Lib.hid (U.Own.empty w4 5 .u8)
      have HR1 := Lib.hid (HA.out.bel (HB4.out.trans hba))
      have hn1 : ([] : List Int).length + n ≤ 100000 := by have := HNN.out; simp; omega
      have hn2 : ([] ++ l).length + m3 ≤ 100000 := by have := HNN.out; have := HN.out; have := HM3.out; have := HE.out.2; simp; omega
      have hs4 : w4.heap.size ≤ (w4.alloc (.cells #[] 5)).heap.size := by simp
      clear hba
      go_wp2_with (first
        | (at_builtin; refine wpl_append (by rfl) (.tmp 44) (.tmp 45) 33 rfl Tryz.underlying33 hi0 hi1 hi2 hi3 rfl (by omega) HO4.out rfl HR1.out rfl HN.out HNIL.out hn1 hs4 ?_; intro v5 w5 hown5 hb5; have hb45 : Bel w4 w5 := Below.trans ((Bel.refl w4).alloc (.cells #[] 5)) hb5)
        | (at_builtin; refine wpl_append (by rfl) (.tmp 46) (.tmp 47) 33 rfl Tryz.underlying33 hi0 hi1 hi2 hi3 rfl (by omega) hown5 rfl (HR34.out.bel hb45) rfl HM3.out (fun e => by cases e) hn2 (Below.size hb45) ?_; intro v6 w6 hown6 hb6)
        | fail)
      have hb46 : Bel w4 w6 := Below.trans hb45 hb6
      rw [List.nil_append] at hown6
      obtain ⟨A6, c6, rfl, h6c, h6r, h6n⟩ := hown6.rd
      obtain ⟨M, hM⟩ : ∃ M, (l ++ E).length = M := ⟨_, rfl⟩
      rw [hM] at h6c ⊢
      have hM3 : M ≤ 304 := by rw [← hM, List.length_append, HN.out]; have := HNN.out; have := HE.out.2; omega
      have hbL : ∀ x ∈ l ++ E, 0 ≤ x ∧ x < 256 := by
        intro x hx
        rcases List.mem_append.1 hx with h | h
        · exact HBY.out x h
        · exact HE.out.1 x h
      have hS1 : txt (l ++ E) = .error (7, (M : Int)) := by rw [HS.out.1, hM]
      have HC6 := Lib.hid (text_is A6 M c6 (l ++ E) _ w6 (HZ.out.bel (HB4.out.trans hb46)) h6r hM h6c (by omega) hbL hS1)
      clear hS1
      have HB6 := Lib.hid (HB4.out.trans hb46)
      have HX6 := Lib.hid (And.intro h6c (And.intro h6r (And.intro h6n (And.intro hM (And.intro hM3 hbL)))))
      have HR46 := Lib.hid (HR4.out.bel hb46)
      have HRD6 := Lib.hid (HRD4.out.bel hb46)
      clear hown5 hb5 hb45 hown6 hb6 hb46 h6c h6r h6n hM hM3 hbL hn1 hn2 hs4 HO4 HR1 HR34 HRD4 HB4 HR4
      with_reducible refine HC6.out.mono ?_
      rintro e w7 ⟨he7, hb7⟩
      obtain rfl : e = .returned (.tuple #[.slice none 0 0, .agg #[.int .i64 7, .int .i64 M]]) := he7
      obtain ⟨h6c, h6r, h6n, hM, hM3, hbL⟩ := HX6.out
      have hbf := (Bel.refl w7).alloc (.cells #[.int .i64 7, .int .i64 M] 38)
      have hbs : (w7.alloc (.cells #[.int .i64 7, .int .i64 M] 38)).heap.size = w7.heap.size + 1 := by simp
      have TF := Lib.hid ((Two.new w7 38 7 M).bel ((Bel.refl _).alloc (.cells #[] 5)))
      have hba : Bel w7 ((w7.alloc (.cells #[.int .i64 7, .int .i64 M] 38)).alloc (.cells #[] 5)) := hbf.alloc _
      have hO := U.Own.empty (w7.alloc (.cells #[.int .i64 7, .int .i64 M] 38)) 5 .u8
      rw [hbs] at hO
      have HO7 := Lib.hid hO
      have HR6 := Lib.hid (h6r.bel (hb7.trans hba))
      have HR47 := Lib.hid (HR46.out.bel hb7)
      have HB7 := Lib.hid (HB6.out.trans hb7)
      have HRD7 := Lib.hid (HRD6.out.bel hb7)
      have hn1 : ([] : List Int).length + M ≤ 100000 := by simp; omega
      have hn2 : ([] ++ (l ++ E)).length + 2 ≤ 100000 := by rw [List.nil_append, hM]; omega
      have hs7 : w7.heap.size + 1 ≤ ((w7.alloc (.cells #[.int .i64 7, .int .i64 M] 38)).alloc (.cells #[] 5)).heap.size := by simp
      have HBA := Lib.hid hba
      clear hba hbf hbs hO hb7 h6c h6r HB6 HRD6 HR46 HC6
      go_wp2_with (first
        | (at_builtin; refine wpl_append (by rfl) (.tmp 55) (.tmp 56) 33 rfl Tryz.underlying33 hi0 hi1 hi2 hi3 rfl (by omega) HO7.out rfl HR6.out rfl hM h6n hn1 hs7 ?_; intro v8 w8 hown8 hb8; have hb78 : Bel w7 w8 := Below.trans HBA.out (Below.mono hb8 (by omega)))
        | (at_builtin; refine wpl_append (by rfl) (.tmp 57) (.tmp 58) 33 rfl Tryz.underlying33 hi0 hi1 hi2 hi3 rfl (by omega) hown8 rfl (HR47.out.bel hb78) rfl rfl (fun e => by cases e) hn2 (Nat.le_trans hs7 (Below.size hb8)) ?_; intro v9 w9 hown9 hb9)
        | fail)
      have hb79 : Bel w7 w9 := Below.trans hb78 (Below.mono hb9 (by omega))
      have T9 := Lib.hid ((TF.out.bel' hb8 (by omega)).bel' hb9 (by omega))
      rw [List.nil_append] at hown9
      obtain ⟨A9, c9, rfl, h9c, h9r, h9n⟩ := hown9.rd
      obtain ⟨M9, hM9⟩ : ∃ M9, (l ++ E ++ [27, 115]).length = M9 := ⟨_, rfl⟩
      rw [hM9] at h9c ⊢
      have hM93 : M9 ≤ 306 := by rw [← hM9, List.length_append, hM]; simp; omega
      have hbL9 : ∀ x ∈ l ++ E ++ [27, 115], 0 ≤ x ∧ x < 256 := by
        intro x hx
        rcases List.mem_append.1 hx with h | h
        · exact hbL x h
        · simp at h
          omega
      have HC9 := Lib.hid (text_is A9 M9 c9 (l ++ E ++ [27, 115]) _ w9 (HZ.out.bel (HB7.out.trans hb79)) h9r hM9 h9c (by omega) hbL9 HS.out.2)
      have HB9 := Lib.hid (HB7.out.trans hb79)
      have HRD9 := Lib.hid (HRD7.out.bel hb79)
      clear hown8 hb8 hb78 hown9 hb9 hb79 h9c h9r h9n hM9 hM93 hbL9 hn1 hn2 hs7 HO7 HR6 HR47 HB7 HRD7 TF HBA hM hM3 hbL h6n HX6
      with_reducible refine HC9.out.mono ?_
      rintro e w10 ⟨Ay, cy, he10, hcy, hry, hyn, hb10⟩
      rw [HND.out] at he10 hcy
      subst he10
      have hbf := (Bel.refl w10).alloc (.cells #[.int .i64 0, .int .i64 0] 38)
      have T11 := Lib.hid (T9.out.bel (hb10.trans hbf))
      have U11 := Lib.hid (Two.new w10 38 0 0)
      have HRx := Lib.hid (HRD9.out.bel (hb10.trans hbf))
      have HRy := Lib.hid (hry.bel hbf)
      have HB11 := Lib.hid ((HB9.out.trans hb10).trans hbf)
      have HAN := Lib.hid (answers_any _ (HZ.out.bel ((HB9.out.trans hb10).trans hbf)))
      clear hbf hb10 hry hyn hcy T9 HB9 HRD9 HC9
      go_wp2_with fail
      generalize w10.alloc (.cells #[.int .i64 0, .int .i64 0] 38) = w11 at *
      with_reducible refine HAN.out.mono ?_
      rintro e w12 ⟨rfl, hb12⟩
      obtain ⟨t0, t1, _, _⟩ := T11.out.bel hb12
      obtain ⟨u0, u1, _, _⟩ := U11.out.bel hb12
      have hfin : d.length ≤ 1099511627776 := by have := txt_len HTX.out; have := HN.out; have := HNN.out; omega
      have HRU := Lib.hid (runes_is Ad Ay ND ND cd cy d d _ _ true w12 (HRx.out.bel hb12) (HRy.out.bel hb12) HND.out HND.out (by rw [← HND.out]; exact hfin) (by simp))
      have HB12 := Lib.hid (HB11.out.trans hb12)
      clear hfin hb12 HB11 HAN T11 U11 HRx HRy
      go_wp2_with (go_at_call 13; (with_reducible refine HRU.out.mono ?_); rintro e w13 hp13; obtain ⟨rfl, hb13⟩ := runes_bel hp13)
      go_ret
      exact ⟨rfl, HB12.out.trans hb13⟩
end Go.Proofs.YtphnahabonfmmaaGreatDoor.D
namespace Go.Proofs.YtphnahabonfmmaaGreatDoor.D
open Go.RowKit U V
set_option linter.unusedVariables false

def PtrTo (b : Nat) : Value := .pointer (some ⟨b, 0, none⟩)
theorem ptr_inj {a b : Nat} (h : PtrTo a = PtrTo b) : a = b := by simpa [PtrTo] using h
/-- Neither of both results' places is block b. -/
def SepV (L : Nat → Bool) (V : Nat → Value) (b : Nat) : Prop := (L 11 = true → V 11 ≠ PtrTo b) ∧ (L 12 = true → V 12 ≠ PtrTo b)
structure JI (W : World) (Aa Ab : Option Addr) (na ca nb cb : Nat) (la lb : List Int) (g0 g1 : Int) (nz : Nat) (lz : List Int) (r0 r1 h0 h1 : Int) (Az : Option Addr) (cz : Nat) (L : Nat → Bool) (V : Nat → Value) (u : World) : Prop where
  bel : Bel W u
  v0 : L 0 = true → L 2 = false → U.Own u W.heap.size 5 .u8 (V 0) [] ∧ ∀ b, (V 0).ownBlock = some b → SepV L V b
  v1 : L 1 = true → V 1 = .slice Aa na ca
  v2 : L 2 = true → L 4 = false → U.Own u W.heap.size 5 .u8 (V 2) la ∧ ∀ b, (V 2).ownBlock = some b → SepV L V b
  v3 : L 3 = true → V 3 = .slice Ab nb cb
  v4 : L 4 = true → L 6 = false → ∃ A' c', V 4 = .slice A' (na + nb) c' ∧ na + nb ≤ c' ∧ Rd u u.heap.size .u8 A' (la ++ lb)
  v5 : L 5 = true → V 5 = .agg #[.int .i64 g0, .int .i64 g1]
  v6 : L 6 = true → V 6 = .tuple #[.slice Az nz cz, .agg #[.int .i64 r0, .int .i64 r1], .agg #[.int .i64 h0, .int .i64 h1]] ∧ Rd u u.heap.size .i32 Az lz ∧ (Az = none → cz = 0) ∧ nz ≤ cz ∧ ∀ a, Az = some a → SepV L V a.block
  v7 : L 7 = true → L 6 = true ∧ V 7 = .tuple #[.slice Az nz cz, .agg #[.int .i64 r0, .int .i64 r1], .agg #[.int .i64 h0, .int .i64 h1]]
  v8 : L 8 = true → L 6 = true ∧ V 8 = .slice Az nz cz
  v9 : L 9 = true → V 9 = .agg #[.int .i64 r0, .int .i64 r1]
  v10 : L 10 = true → V 10 = .agg #[.int .i64 h0, .int .i64 h1]
  v11 : L 11 = true → ∃ p, V 11 = PtrTo p ∧ W.heap.size ≤ p ∧ Two u p (bif L 14 then r0 else 0) (bif L 14 then r1 else 0)
  v12 : L 12 = true → ∃ p, V 12 = PtrTo p ∧ W.heap.size ≤ p ∧ Two u p (bif L 15 then h0 else 0) (bif L 15 then h1 else 0)
  v13 : L 13 = true → L 6 = true ∧ V 13 = .slice Az nz cz
  ne : L 11 = true → L 12 = true → V 11 ≠ V 12
  o2 : L 4 = true → L 2 = true
  o4 : L 6 = true → L 4 = true
  o14 : L 14 = true → L 6 = true ∧ L 11 = true ∧ L 12 = true
  o15 : L 15 = true → L 14 = true
  zb : L 6 = true → ∀ a, Az = some a → a.block < u.heap.size
section
variable {W u u' : World} {Aa Ab : Option Addr} {na ca nb cb : Nat} {la lb : List Int} {g0 g1 : Int} {nz : Nat} {lz : List Int} {r0 r1 h0 h1 : Int} {Az : Option Addr} {cz : Nat} {L : Nat → Bool} {V : Nat → Value}
theorem ne_of {b : Bool} (h : b = true) (k : b = false) : False := by rw [h] at k; cases k
theorem f_of {b b' : Bool} (h : b = true → b' = true) (h' : b' = false) : b = false := by
  cases b with
  | false => rfl
  | true => exact (ne_of (h rfl) h').elim
theorem _root_.Go.Proofs.YtphnahabonfmmaaGreatDoor.U.Bel.trans' {W u u' : World} (h : Bel W u) {row : Option Nat} (hg : u.grownBy u' row) (hlo : ∀ b, row = some b → W.heap.size ≤ b) : Bel W u' :=
  Below.grown h hg (Below.size h) hlo
/-- The world grows where no row of interest lies. -/
theorem JI.grow (h : JI W Aa Ab na ca nb cb la lb g0 g1 nz lz r0 r1 h0 h1 Az cz L V u) (hb : Bel u u') : JI W Aa Ab na ca nb cb la lb g0 g1 nz lz r0 r1 h0 h1 Az cz L V u' where
  bel := h.bel.trans hb
  v0 := fun a b => ⟨(h.v0 a b).1.keep hb, (h.v0 a b).2⟩
  v1 := h.v1
  v2 := fun a b => ⟨(h.v2 a b).1.keep hb, (h.v2 a b).2⟩
  v3 := h.v3
  v4 := fun a b => by
    obtain ⟨A', c', e1, e2, e3⟩ := h.v4 a b
    exact ⟨A', c', e1, e2, (e3.bel hb).here⟩
  v5 := h.v5
  v6 := fun a => by
    obtain ⟨e1, e2, e3⟩ := h.v6 a
    exact ⟨e1, (e2.bel hb).here, e3⟩
  v7 := h.v7
  v8 := h.v8
  v9 := h.v9
  v10 := h.v10
  v11 := fun a => by
    obtain ⟨p, e1, e2, e3⟩ := h.v11 a
    exact ⟨p, e1, e2, e3.bel hb⟩
  v12 := fun a => by
    obtain ⟨p, e1, e2, e3⟩ := h.v12 a
    exact ⟨p, e1, e2, e3.bel hb⟩
  v13 := h.v13
  ne := h.ne
  o2 := h.o2
  o4 := h.o4
  o14 := h.o14
  o15 := h.o15
  zb := fun a b c => Nat.lt_of_lt_of_le (h.zb a b c) (Below.size hb)
theorem js_1 (h : JI W Aa Ab na ca nb cb la lb g0 g1 nz lz r0 r1 h0 h1 Az cz L V u) : JI W Aa Ab na ca nb cb la lb g0 g1 nz lz r0 r1 h0 h1 Az cz (Go.Proofs.YtphnahabonfmmaaGreatDoor.R.setL L 1) (upd V 1 (.slice Aa na ca)) u where
  bel := h.bel
  v0 := by have h9 := h.v0; simpa [Go.Proofs.YtphnahabonfmmaaGreatDoor.R.setL, upd, SepV] using h9
  v1 := fun _ => upd_self _ _ _
  v2 := by have h9 := h.v2; simpa [Go.Proofs.YtphnahabonfmmaaGreatDoor.R.setL, upd, SepV] using h9
  v3 := by have h9 := h.v3; simpa [Go.Proofs.YtphnahabonfmmaaGreatDoor.R.setL, upd, SepV] using h9
  v4 := by have h9 := h.v4; simpa [Go.Proofs.YtphnahabonfmmaaGreatDoor.R.setL, upd, SepV] using h9
  v5 := by have h9 := h.v5; simpa [Go.Proofs.YtphnahabonfmmaaGreatDoor.R.setL, upd, SepV] using h9
  v6 := by have h9 := h.v6; simpa [Go.Proofs.YtphnahabonfmmaaGreatDoor.R.setL, upd, SepV] using h9
  v7 := by have h9 := h.v7; simpa [Go.Proofs.YtphnahabonfmmaaGreatDoor.R.setL, upd, SepV] using h9
  v8 := by have h9 := h.v8; simpa [Go.Proofs.YtphnahabonfmmaaGreatDoor.R.setL, upd, SepV] using h9
  v9 := by have h9 := h.v9; simpa [Go.Proofs.YtphnahabonfmmaaGreatDoor.R.setL, upd, SepV] using h9
  v10 := by have h9 := h.v10; simpa [Go.Proofs.YtphnahabonfmmaaGreatDoor.R.setL, upd, SepV] using h9
  v11 := by have h9 := h.v11; simpa [Go.Proofs.YtphnahabonfmmaaGreatDoor.R.setL, upd, SepV] using h9
  v12 := by have h9 := h.v12; simpa [Go.Proofs.YtphnahabonfmmaaGreatDoor.R.setL, upd, SepV] using h9
  v13 := by have h9 := h.v13; simpa [Go.Proofs.YtphnahabonfmmaaGreatDoor.R.setL, upd, SepV] using h9
  ne := by have h9 := h.ne; simpa [Go.Proofs.YtphnahabonfmmaaGreatDoor.R.setL, upd, SepV] using h9
  o2 := by have h9 := h.o2; simpa [Go.Proofs.YtphnahabonfmmaaGreatDoor.R.setL, upd, SepV] using h9
  o4 := by have h9 := h.o4; simpa [Go.Proofs.YtphnahabonfmmaaGreatDoor.R.setL, upd, SepV] using h9
  o14 := by have h9 := h.o14; simpa [Go.Proofs.YtphnahabonfmmaaGreatDoor.R.setL, upd, SepV] using h9
  o15 := by have h9 := h.o15; simpa [Go.Proofs.YtphnahabonfmmaaGreatDoor.R.setL, upd, SepV] using h9
  zb := by have h9 := h.zb; simpa [Go.Proofs.YtphnahabonfmmaaGreatDoor.R.setL, upd, SepV] using h9
theorem js_3 (h : JI W Aa Ab na ca nb cb la lb g0 g1 nz lz r0 r1 h0 h1 Az cz L V u) : JI W Aa Ab na ca nb cb la lb g0 g1 nz lz r0 r1 h0 h1 Az cz (Go.Proofs.YtphnahabonfmmaaGreatDoor.R.setL L 3) (upd V 3 (.slice Ab nb cb)) u where
  bel := h.bel
  v0 := by have h9 := h.v0; simpa [Go.Proofs.YtphnahabonfmmaaGreatDoor.R.setL, upd, SepV] using h9
  v1 := by have h9 := h.v1; simpa [Go.Proofs.YtphnahabonfmmaaGreatDoor.R.setL, upd, SepV] using h9
  v2 := by have h9 := h.v2; simpa [Go.Proofs.YtphnahabonfmmaaGreatDoor.R.setL, upd, SepV] using h9
  v3 := fun _ => upd_self _ _ _
  v4 := by have h9 := h.v4; simpa [Go.Proofs.YtphnahabonfmmaaGreatDoor.R.setL, upd, SepV] using h9
  v5 := by have h9 := h.v5; simpa [Go.Proofs.YtphnahabonfmmaaGreatDoor.R.setL, upd, SepV] using h9
  v6 := by have h9 := h.v6; simpa [Go.Proofs.YtphnahabonfmmaaGreatDoor.R.setL, upd, SepV] using h9
  v7 := by have h9 := h.v7; simpa [Go.Proofs.YtphnahabonfmmaaGreatDoor.R.setL, upd, SepV] using h9
  v8 := by have h9 := h.v8; simpa [Go.Proofs.YtphnahabonfmmaaGreatDoor.R.setL, upd, SepV] using h9
  v9 := by have h9 := h.v9; simpa [Go.Proofs.YtphnahabonfmmaaGreatDoor.R.setL, upd, SepV] using h9
  v10 := by have h9 := h.v10; simpa [Go.Proofs.YtphnahabonfmmaaGreatDoor.R.setL, upd, SepV] using h9
  v11 := by have h9 := h.v11; simpa [Go.Proofs.YtphnahabonfmmaaGreatDoor.R.setL, upd, SepV] using h9
  v12 := by have h9 := h.v12; simpa [Go.Proofs.YtphnahabonfmmaaGreatDoor.R.setL, upd, SepV] using h9
  v13 := by have h9 := h.v13; simpa [Go.Proofs.YtphnahabonfmmaaGreatDoor.R.setL, upd, SepV] using h9
  ne := by have h9 := h.ne; simpa [Go.Proofs.YtphnahabonfmmaaGreatDoor.R.setL, upd, SepV] using h9
  o2 := by have h9 := h.o2; simpa [Go.Proofs.YtphnahabonfmmaaGreatDoor.R.setL, upd, SepV] using h9
  o4 := by have h9 := h.o4; simpa [Go.Proofs.YtphnahabonfmmaaGreatDoor.R.setL, upd, SepV] using h9
  o14 := by have h9 := h.o14; simpa [Go.Proofs.YtphnahabonfmmaaGreatDoor.R.setL, upd, SepV] using h9
  o15 := by have h9 := h.o15; simpa [Go.Proofs.YtphnahabonfmmaaGreatDoor.R.setL, upd, SepV] using h9
  zb := by have h9 := h.zb; simpa [Go.Proofs.YtphnahabonfmmaaGreatDoor.R.setL, upd, SepV] using h9
theorem js_5 (h : JI W Aa Ab na ca nb cb la lb g0 g1 nz lz r0 r1 h0 h1 Az cz L V u) : JI W Aa Ab na ca nb cb la lb g0 g1 nz lz r0 r1 h0 h1 Az cz (Go.Proofs.YtphnahabonfmmaaGreatDoor.R.setL L 5) (upd V 5 (.agg #[.int .i64 g0, .int .i64 g1])) u where
  bel := h.bel
  v0 := by have h9 := h.v0; simpa [Go.Proofs.YtphnahabonfmmaaGreatDoor.R.setL, upd, SepV] using h9
  v1 := by have h9 := h.v1; simpa [Go.Proofs.YtphnahabonfmmaaGreatDoor.R.setL, upd, SepV] using h9
  v2 := by have h9 := h.v2; simpa [Go.Proofs.YtphnahabonfmmaaGreatDoor.R.setL, upd, SepV] using h9
  v3 := by have h9 := h.v3; simpa [Go.Proofs.YtphnahabonfmmaaGreatDoor.R.setL, upd, SepV] using h9
  v4 := by have h9 := h.v4; simpa [Go.Proofs.YtphnahabonfmmaaGreatDoor.R.setL, upd, SepV] using h9
  v5 := fun _ => upd_self _ _ _
  v6 := by have h9 := h.v6; simpa [Go.Proofs.YtphnahabonfmmaaGreatDoor.R.setL, upd, SepV] using h9
  v7 := by have h9 := h.v7; simpa [Go.Proofs.YtphnahabonfmmaaGreatDoor.R.setL, upd, SepV] using h9
  v8 := by have h9 := h.v8; simpa [Go.Proofs.YtphnahabonfmmaaGreatDoor.R.setL, upd, SepV] using h9
  v9 := by have h9 := h.v9; simpa [Go.Proofs.YtphnahabonfmmaaGreatDoor.R.setL, upd, SepV] using h9
  v10 := by have h9 := h.v10; simpa [Go.Proofs.YtphnahabonfmmaaGreatDoor.R.setL, upd, SepV] using h9
  v11 := by have h9 := h.v11; simpa [Go.Proofs.YtphnahabonfmmaaGreatDoor.R.setL, upd, SepV] using h9
  v12 := by have h9 := h.v12; simpa [Go.Proofs.YtphnahabonfmmaaGreatDoor.R.setL, upd, SepV] using h9
  v13 := by have h9 := h.v13; simpa [Go.Proofs.YtphnahabonfmmaaGreatDoor.R.setL, upd, SepV] using h9
  ne := by have h9 := h.ne; simpa [Go.Proofs.YtphnahabonfmmaaGreatDoor.R.setL, upd, SepV] using h9
  o2 := by have h9 := h.o2; simpa [Go.Proofs.YtphnahabonfmmaaGreatDoor.R.setL, upd, SepV] using h9
  o4 := by have h9 := h.o4; simpa [Go.Proofs.YtphnahabonfmmaaGreatDoor.R.setL, upd, SepV] using h9
  o14 := by have h9 := h.o14; simpa [Go.Proofs.YtphnahabonfmmaaGreatDoor.R.setL, upd, SepV] using h9
  o15 := by have h9 := h.o15; simpa [Go.Proofs.YtphnahabonfmmaaGreatDoor.R.setL, upd, SepV] using h9
  zb := by have h9 := h.zb; simpa [Go.Proofs.YtphnahabonfmmaaGreatDoor.R.setL, upd, SepV] using h9
theorem js_7 (h6 : L 6 = true) (h : JI W Aa Ab na ca nb cb la lb g0 g1 nz lz r0 r1 h0 h1 Az cz L V u) : JI W Aa Ab na ca nb cb la lb g0 g1 nz lz r0 r1 h0 h1 Az cz (Go.Proofs.YtphnahabonfmmaaGreatDoor.R.setL L 7) (upd V 7 (.tuple #[.slice Az nz cz, .agg #[.int .i64 r0, .int .i64 r1], .agg #[.int .i64 h0, .int .i64 h1]])) u where
  bel := h.bel
  v0 := by have h9 := h.v0; simpa [Go.Proofs.YtphnahabonfmmaaGreatDoor.R.setL, upd, SepV] using h9
  v1 := by have h9 := h.v1; simpa [Go.Proofs.YtphnahabonfmmaaGreatDoor.R.setL, upd, SepV] using h9
  v2 := by have h9 := h.v2; simpa [Go.Proofs.YtphnahabonfmmaaGreatDoor.R.setL, upd, SepV] using h9
  v3 := by have h9 := h.v3; simpa [Go.Proofs.YtphnahabonfmmaaGreatDoor.R.setL, upd, SepV] using h9
  v4 := by have h9 := h.v4; simpa [Go.Proofs.YtphnahabonfmmaaGreatDoor.R.setL, upd, SepV] using h9
  v5 := by have h9 := h.v5; simpa [Go.Proofs.YtphnahabonfmmaaGreatDoor.R.setL, upd, SepV] using h9
  v6 := by have h9 := h.v6; simpa [Go.Proofs.YtphnahabonfmmaaGreatDoor.R.setL, upd, SepV] using h9
  v7 := fun _ => ⟨by simpa [Go.Proofs.YtphnahabonfmmaaGreatDoor.R.setL] using h6, upd_self _ _ _⟩
  v8 := by have h9 := h.v8; simpa [Go.Proofs.YtphnahabonfmmaaGreatDoor.R.setL, upd, SepV] using h9
  v9 := by have h9 := h.v9; simpa [Go.Proofs.YtphnahabonfmmaaGreatDoor.R.setL, upd, SepV] using h9
  v10 := by have h9 := h.v10; simpa [Go.Proofs.YtphnahabonfmmaaGreatDoor.R.setL, upd, SepV] using h9
  v11 := by have h9 := h.v11; simpa [Go.Proofs.YtphnahabonfmmaaGreatDoor.R.setL, upd, SepV] using h9
  v12 := by have h9 := h.v12; simpa [Go.Proofs.YtphnahabonfmmaaGreatDoor.R.setL, upd, SepV] using h9
  v13 := by have h9 := h.v13; simpa [Go.Proofs.YtphnahabonfmmaaGreatDoor.R.setL, upd, SepV] using h9
  ne := by have h9 := h.ne; simpa [Go.Proofs.YtphnahabonfmmaaGreatDoor.R.setL, upd, SepV] using h9
  o2 := by have h9 := h.o2; simpa [Go.Proofs.YtphnahabonfmmaaGreatDoor.R.setL, upd, SepV] using h9
  o4 := by have h9 := h.o4; simpa [Go.Proofs.YtphnahabonfmmaaGreatDoor.R.setL, upd, SepV] using h9
  o14 := by have h9 := h.o14; simpa [Go.Proofs.YtphnahabonfmmaaGreatDoor.R.setL, upd, SepV] using h9
  o15 := by have h9 := h.o15; simpa [Go.Proofs.YtphnahabonfmmaaGreatDoor.R.setL, upd, SepV] using h9
  zb := by have h9 := h.zb; simpa [Go.Proofs.YtphnahabonfmmaaGreatDoor.R.setL, upd, SepV] using h9
theorem js_8 (h6 : L 6 = true) (h : JI W Aa Ab na ca nb cb la lb g0 g1 nz lz r0 r1 h0 h1 Az cz L V u) : JI W Aa Ab na ca nb cb la lb g0 g1 nz lz r0 r1 h0 h1 Az cz (Go.Proofs.YtphnahabonfmmaaGreatDoor.R.setL L 8) (upd V 8 (.slice Az nz cz)) u where
  bel := h.bel
  v0 := by have h9 := h.v0; simpa [Go.Proofs.YtphnahabonfmmaaGreatDoor.R.setL, upd, SepV] using h9
  v1 := by have h9 := h.v1; simpa [Go.Proofs.YtphnahabonfmmaaGreatDoor.R.setL, upd, SepV] using h9
  v2 := by have h9 := h.v2; simpa [Go.Proofs.YtphnahabonfmmaaGreatDoor.R.setL, upd, SepV] using h9
  v3 := by have h9 := h.v3; simpa [Go.Proofs.YtphnahabonfmmaaGreatDoor.R.setL, upd, SepV] using h9
  v4 := by have h9 := h.v4; simpa [Go.Proofs.YtphnahabonfmmaaGreatDoor.R.setL, upd, SepV] using h9
  v5 := by have h9 := h.v5; simpa [Go.Proofs.YtphnahabonfmmaaGreatDoor.R.setL, upd, SepV] using h9
  v6 := by have h9 := h.v6; simpa [Go.Proofs.YtphnahabonfmmaaGreatDoor.R.setL, upd, SepV] using h9
  v7 := by have h9 := h.v7; simpa [Go.Proofs.YtphnahabonfmmaaGreatDoor.R.setL, upd, SepV] using h9
  v8 := fun _ => ⟨by simpa [Go.Proofs.YtphnahabonfmmaaGreatDoor.R.setL] using h6, upd_self _ _ _⟩
  v9 := by have h9 := h.v9; simpa [Go.Proofs.YtphnahabonfmmaaGreatDoor.R.setL, upd, SepV] using h9
  v10 := by have h9 := h.v10; simpa [Go.Proofs.YtphnahabonfmmaaGreatDoor.R.setL, upd, SepV] using h9
  v11 := by have h9 := h.v11; simpa [Go.Proofs.YtphnahabonfmmaaGreatDoor.R.setL, upd, SepV] using h9
  v12 := by have h9 := h.v12; simpa [Go.Proofs.YtphnahabonfmmaaGreatDoor.R.setL, upd, SepV] using h9
  v13 := by have h9 := h.v13; simpa [Go.Proofs.YtphnahabonfmmaaGreatDoor.R.setL, upd, SepV] using h9
  ne := by have h9 := h.ne; simpa [Go.Proofs.YtphnahabonfmmaaGreatDoor.R.setL, upd, SepV] using h9
  o2 := by have h9 := h.o2; simpa [Go.Proofs.YtphnahabonfmmaaGreatDoor.R.setL, upd, SepV] using h9
  o4 := by have h9 := h.o4; simpa [Go.Proofs.YtphnahabonfmmaaGreatDoor.R.setL, upd, SepV] using h9
  o14 := by have h9 := h.o14; simpa [Go.Proofs.YtphnahabonfmmaaGreatDoor.R.setL, upd, SepV] using h9
  o15 := by have h9 := h.o15; simpa [Go.Proofs.YtphnahabonfmmaaGreatDoor.R.setL, upd, SepV] using h9
  zb := by have h9 := h.zb; simpa [Go.Proofs.YtphnahabonfmmaaGreatDoor.R.setL, upd, SepV] using h9
theorem js_9 (h : JI W Aa Ab na ca nb cb la lb g0 g1 nz lz r0 r1 h0 h1 Az cz L V u) : JI W Aa Ab na ca nb cb la lb g0 g1 nz lz r0 r1 h0 h1 Az cz (Go.Proofs.YtphnahabonfmmaaGreatDoor.R.setL L 9) (upd V 9 (.agg #[.int .i64 r0, .int .i64 r1])) u where
  bel := h.bel
  v0 := by have h9 := h.v0; simpa [Go.Proofs.YtphnahabonfmmaaGreatDoor.R.setL, upd, SepV] using h9
  v1 := by have h9 := h.v1; simpa [Go.Proofs.YtphnahabonfmmaaGreatDoor.R.setL, upd, SepV] using h9
  v2 := by have h9 := h.v2; simpa [Go.Proofs.YtphnahabonfmmaaGreatDoor.R.setL, upd, SepV] using h9
  v3 := by have h9 := h.v3; simpa [Go.Proofs.YtphnahabonfmmaaGreatDoor.R.setL, upd, SepV] using h9
  v4 := by have h9 := h.v4; simpa [Go.Proofs.YtphnahabonfmmaaGreatDoor.R.setL, upd, SepV] using h9
  v5 := by have h9 := h.v5; simpa [Go.Proofs.YtphnahabonfmmaaGreatDoor.R.setL, upd, SepV] using h9
  v6 := by have h9 := h.v6; simpa [Go.Proofs.YtphnahabonfmmaaGreatDoor.R.setL, upd, SepV] using h9
  v7 := by have h9 := h.v7; simpa [Go.Proofs.YtphnahabonfmmaaGreatDoor.R.setL, upd, SepV] using h9
  v8 := by have h9 := h.v8; simpa [Go.Proofs.YtphnahabonfmmaaGreatDoor.R.setL, upd, SepV] using h9
  v9 := fun _ => upd_self _ _ _
  v10 := by have h9 := h.v10; simpa [Go.Proofs.YtphnahabonfmmaaGreatDoor.R.setL, upd, SepV] using h9
  v11 := by have h9 := h.v11; simpa [Go.Proofs.YtphnahabonfmmaaGreatDoor.R.setL, upd, SepV] using h9
  v12 := by have h9 := h.v12; simpa [Go.Proofs.YtphnahabonfmmaaGreatDoor.R.setL, upd, SepV] using h9
  v13 := by have h9 := h.v13; simpa [Go.Proofs.YtphnahabonfmmaaGreatDoor.R.setL, upd, SepV] using h9
  ne := by have h9 := h.ne; simpa [Go.Proofs.YtphnahabonfmmaaGreatDoor.R.setL, upd, SepV] using h9
  o2 := by have h9 := h.o2; simpa [Go.Proofs.YtphnahabonfmmaaGreatDoor.R.setL, upd, SepV] using h9
  o4 := by have h9 := h.o4; simpa [Go.Proofs.YtphnahabonfmmaaGreatDoor.R.setL, upd, SepV] using h9
  o14 := by have h9 := h.o14; simpa [Go.Proofs.YtphnahabonfmmaaGreatDoor.R.setL, upd, SepV] using h9
  o15 := by have h9 := h.o15; simpa [Go.Proofs.YtphnahabonfmmaaGreatDoor.R.setL, upd, SepV] using h9
  zb := by have h9 := h.zb; simpa [Go.Proofs.YtphnahabonfmmaaGreatDoor.R.setL, upd, SepV] using h9
theorem js_10 (h : JI W Aa Ab na ca nb cb la lb g0 g1 nz lz r0 r1 h0 h1 Az cz L V u) : JI W Aa Ab na ca nb cb la lb g0 g1 nz lz r0 r1 h0 h1 Az cz (Go.Proofs.YtphnahabonfmmaaGreatDoor.R.setL L 10) (upd V 10 (.agg #[.int .i64 h0, .int .i64 h1])) u where
  bel := h.bel
  v0 := by have h9 := h.v0; simpa [Go.Proofs.YtphnahabonfmmaaGreatDoor.R.setL, upd, SepV] using h9
  v1 := by have h9 := h.v1; simpa [Go.Proofs.YtphnahabonfmmaaGreatDoor.R.setL, upd, SepV] using h9
  v2 := by have h9 := h.v2; simpa [Go.Proofs.YtphnahabonfmmaaGreatDoor.R.setL, upd, SepV] using h9
  v3 := by have h9 := h.v3; simpa [Go.Proofs.YtphnahabonfmmaaGreatDoor.R.setL, upd, SepV] using h9
  v4 := by have h9 := h.v4; simpa [Go.Proofs.YtphnahabonfmmaaGreatDoor.R.setL, upd, SepV] using h9
  v5 := by have h9 := h.v5; simpa [Go.Proofs.YtphnahabonfmmaaGreatDoor.R.setL, upd, SepV] using h9
  v6 := by have h9 := h.v6; simpa [Go.Proofs.YtphnahabonfmmaaGreatDoor.R.setL, upd, SepV] using h9
  v7 := by have h9 := h.v7; simpa [Go.Proofs.YtphnahabonfmmaaGreatDoor.R.setL, upd, SepV] using h9
  v8 := by have h9 := h.v8; simpa [Go.Proofs.YtphnahabonfmmaaGreatDoor.R.setL, upd, SepV] using h9
  v9 := by have h9 := h.v9; simpa [Go.Proofs.YtphnahabonfmmaaGreatDoor.R.setL, upd, SepV] using h9
  v10 := fun _ => upd_self _ _ _
  v11 := by have h9 := h.v11; simpa [Go.Proofs.YtphnahabonfmmaaGreatDoor.R.setL, upd, SepV] using h9
  v12 := by have h9 := h.v12; simpa [Go.Proofs.YtphnahabonfmmaaGreatDoor.R.setL, upd, SepV] using h9
  v13 := by have h9 := h.v13; simpa [Go.Proofs.YtphnahabonfmmaaGreatDoor.R.setL, upd, SepV] using h9
  ne := by have h9 := h.ne; simpa [Go.Proofs.YtphnahabonfmmaaGreatDoor.R.setL, upd, SepV] using h9
  o2 := by have h9 := h.o2; simpa [Go.Proofs.YtphnahabonfmmaaGreatDoor.R.setL, upd, SepV] using h9
  o4 := by have h9 := h.o4; simpa [Go.Proofs.YtphnahabonfmmaaGreatDoor.R.setL, upd, SepV] using h9
  o14 := by have h9 := h.o14; simpa [Go.Proofs.YtphnahabonfmmaaGreatDoor.R.setL, upd, SepV] using h9
  o15 := by have h9 := h.o15; simpa [Go.Proofs.YtphnahabonfmmaaGreatDoor.R.setL, upd, SepV] using h9
  zb := by have h9 := h.zb; simpa [Go.Proofs.YtphnahabonfmmaaGreatDoor.R.setL, upd, SepV] using h9
theorem js_13 (h6 : L 6 = true) (h : JI W Aa Ab na ca nb cb la lb g0 g1 nz lz r0 r1 h0 h1 Az cz L V u) : JI W Aa Ab na ca nb cb la lb g0 g1 nz lz r0 r1 h0 h1 Az cz (Go.Proofs.YtphnahabonfmmaaGreatDoor.R.setL L 13) (upd V 13 (.slice Az nz cz)) u where
  bel := h.bel
  v0 := by have h9 := h.v0; simpa [Go.Proofs.YtphnahabonfmmaaGreatDoor.R.setL, upd, SepV] using h9
  v1 := by have h9 := h.v1; simpa [Go.Proofs.YtphnahabonfmmaaGreatDoor.R.setL, upd, SepV] using h9
  v2 := by have h9 := h.v2; simpa [Go.Proofs.YtphnahabonfmmaaGreatDoor.R.setL, upd, SepV] using h9
  v3 := by have h9 := h.v3; simpa [Go.Proofs.YtphnahabonfmmaaGreatDoor.R.setL, upd, SepV] using h9
  v4 := by have h9 := h.v4; simpa [Go.Proofs.YtphnahabonfmmaaGreatDoor.R.setL, upd, SepV] using h9
  v5 := by have h9 := h.v5; simpa [Go.Proofs.YtphnahabonfmmaaGreatDoor.R.setL, upd, SepV] using h9
  v6 := by have h9 := h.v6; simpa [Go.Proofs.YtphnahabonfmmaaGreatDoor.R.setL, upd, SepV] using h9
  v7 := by have h9 := h.v7; simpa [Go.Proofs.YtphnahabonfmmaaGreatDoor.R.setL, upd, SepV] using h9
  v8 := by have h9 := h.v8; simpa [Go.Proofs.YtphnahabonfmmaaGreatDoor.R.setL, upd, SepV] using h9
  v9 := by have h9 := h.v9; simpa [Go.Proofs.YtphnahabonfmmaaGreatDoor.R.setL, upd, SepV] using h9
  v10 := by have h9 := h.v10; simpa [Go.Proofs.YtphnahabonfmmaaGreatDoor.R.setL, upd, SepV] using h9
  v11 := by have h9 := h.v11; simpa [Go.Proofs.YtphnahabonfmmaaGreatDoor.R.setL, upd, SepV] using h9
  v12 := by have h9 := h.v12; simpa [Go.Proofs.YtphnahabonfmmaaGreatDoor.R.setL, upd, SepV] using h9
  v13 := fun _ => ⟨by simpa [Go.Proofs.YtphnahabonfmmaaGreatDoor.R.setL] using h6, upd_self _ _ _⟩
  ne := by have h9 := h.ne; simpa [Go.Proofs.YtphnahabonfmmaaGreatDoor.R.setL, upd, SepV] using h9
  o2 := by have h9 := h.o2; simpa [Go.Proofs.YtphnahabonfmmaaGreatDoor.R.setL, upd, SepV] using h9
  o4 := by have h9 := h.o4; simpa [Go.Proofs.YtphnahabonfmmaaGreatDoor.R.setL, upd, SepV] using h9
  o14 := by have h9 := h.o14; simpa [Go.Proofs.YtphnahabonfmmaaGreatDoor.R.setL, upd, SepV] using h9
  o15 := by have h9 := h.o15; simpa [Go.Proofs.YtphnahabonfmmaaGreatDoor.R.setL, upd, SepV] using h9
  zb := by have h9 := h.zb; simpa [Go.Proofs.YtphnahabonfmmaaGreatDoor.R.setL, upd, SepV] using h9
theorem js_0 (v : Value) (ho : U.Own u W.heap.size 5 .u8 v []) (hv : ∀ b, v.ownBlock = some b → SepV L V b) (h : JI W Aa Ab na ca nb cb la lb g0 g1 nz lz r0 r1 h0 h1 Az cz L V u) : JI W Aa Ab na ca nb cb la lb g0 g1 nz lz r0 r1 h0 h1 Az cz (Go.Proofs.YtphnahabonfmmaaGreatDoor.R.setL L 0) (upd V 0 (v)) u where
  bel := h.bel
  v0 := fun _ _ => ⟨by rw [upd_self]; exact ho, fun b hb => by
    rw [upd_self] at hb
    have hs := hv b hb
    exact ⟨fun a e => by
      rw [upd_other V v (by decide)] at e
      rw [Go.Proofs.YtphnahabonfmmaaGreatDoor.R.setL_other (by decide)] at a
      exact hs.1 a e, fun a e => by
      rw [upd_other V v (by decide)] at e
      rw [Go.Proofs.YtphnahabonfmmaaGreatDoor.R.setL_other (by decide)] at a
      exact hs.2 a e⟩⟩
  v1 := by have h9 := h.v1; simpa [Go.Proofs.YtphnahabonfmmaaGreatDoor.R.setL, upd, SepV] using h9
  v2 := by have h9 := h.v2; simpa [Go.Proofs.YtphnahabonfmmaaGreatDoor.R.setL, upd, SepV] using h9
  v3 := by have h9 := h.v3; simpa [Go.Proofs.YtphnahabonfmmaaGreatDoor.R.setL, upd, SepV] using h9
  v4 := by have h9 := h.v4; simpa [Go.Proofs.YtphnahabonfmmaaGreatDoor.R.setL, upd, SepV] using h9
  v5 := by have h9 := h.v5; simpa [Go.Proofs.YtphnahabonfmmaaGreatDoor.R.setL, upd, SepV] using h9
  v6 := by have h9 := h.v6; simpa [Go.Proofs.YtphnahabonfmmaaGreatDoor.R.setL, upd, SepV] using h9
  v7 := by have h9 := h.v7; simpa [Go.Proofs.YtphnahabonfmmaaGreatDoor.R.setL, upd, SepV] using h9
  v8 := by have h9 := h.v8; simpa [Go.Proofs.YtphnahabonfmmaaGreatDoor.R.setL, upd, SepV] using h9
  v9 := by have h9 := h.v9; simpa [Go.Proofs.YtphnahabonfmmaaGreatDoor.R.setL, upd, SepV] using h9
  v10 := by have h9 := h.v10; simpa [Go.Proofs.YtphnahabonfmmaaGreatDoor.R.setL, upd, SepV] using h9
  v11 := by have h9 := h.v11; simpa [Go.Proofs.YtphnahabonfmmaaGreatDoor.R.setL, upd, SepV] using h9
  v12 := by have h9 := h.v12; simpa [Go.Proofs.YtphnahabonfmmaaGreatDoor.R.setL, upd, SepV] using h9
  v13 := by have h9 := h.v13; simpa [Go.Proofs.YtphnahabonfmmaaGreatDoor.R.setL, upd, SepV] using h9
  ne := by have h9 := h.ne; simpa [Go.Proofs.YtphnahabonfmmaaGreatDoor.R.setL, upd, SepV] using h9
  o2 := by have h9 := h.o2; simpa [Go.Proofs.YtphnahabonfmmaaGreatDoor.R.setL, upd, SepV] using h9
  o4 := by have h9 := h.o4; simpa [Go.Proofs.YtphnahabonfmmaaGreatDoor.R.setL, upd, SepV] using h9
  o14 := by have h9 := h.o14; simpa [Go.Proofs.YtphnahabonfmmaaGreatDoor.R.setL, upd, SepV] using h9
  o15 := by have h9 := h.o15; simpa [Go.Proofs.YtphnahabonfmmaaGreatDoor.R.setL, upd, SepV] using h9
  zb := by have h9 := h.zb; simpa [Go.Proofs.YtphnahabonfmmaaGreatDoor.R.setL, upd, SepV] using h9
/-- A place that lies there is not a new one. -/
theorem JI.sep_new (h : JI W Aa Ab na ca nb cb la lb g0 g1 nz lz r0 r1 h0 h1 Az cz L V u) {b : Nat} (hb : u.heap.size ≤ b) : SepV L V b := by
  refine ⟨fun a e => ?_, fun a e => ?_⟩
  · obtain ⟨p, e1, _, e3⟩ := h.v11 a
    have := cell_block e3.1
    have := ptr_inj (e1.symm.trans e)
    simp only at *
    omega
  · obtain ⟨p, e1, _, e3⟩ := h.v12 a
    have := cell_block e3.1
    have := ptr_inj (e1.symm.trans e)
    simp only at *
    omega
theorem JI.two_far (h : JI W Aa Ab na ca nb cb la lb g0 g1 nz lz r0 r1 h0 h1 Az cz L V u) {v : Value} (hv : ∀ b, v.ownBlock = some b → SepV L V b) (hg : u.grownBy u' v.ownBlock) :
    (L 11 = true → ∃ p, V 11 = PtrTo p ∧ W.heap.size ≤ p ∧ Two u' p (bif L 14 then r0 else 0) (bif L 14 then r1 else 0)) ∧ (L 12 = true → ∃ p, V 12 = PtrTo p ∧ W.heap.size ≤ p ∧ Two u' p (bif L 15 then h0 else 0) (bif L 15 then h1 else 0)) := by
  refine ⟨fun a => ?_, fun a => ?_⟩
  · obtain ⟨p, e1, e2, e3⟩ := h.v11 a
    exact ⟨p, e1, e2, e3.far hg fun e => (hv p e.symm).1 a e1⟩
  · obtain ⟨p, e1, e2, e3⟩ := h.v12 a
    exact ⟨p, e1, e2, e3.far hg fun e => (hv p e.symm).2 a e1⟩
theorem js_2 (v v0 : Value) (hl2 : L 2 = false) (hsep : ∀ b, v0.ownBlock = some b → SepV L V b) (hg : u.grownBy u' v0.ownBlock) (hlo : ∀ b, v0.ownBlock = some b → W.heap.size ≤ b) (hv : v.ownBlock = v0.ownBlock ∨ v.ownBlock = some u.heap.size) (ho : U.Own u' W.heap.size 5 .u8 v la) (h : JI W Aa Ab na ca nb cb la lb g0 g1 nz lz r0 r1 h0 h1 Az cz L V u) : JI W Aa Ab na ca nb cb la lb g0 g1 nz lz r0 r1 h0 h1 Az cz (Go.Proofs.YtphnahabonfmmaaGreatDoor.R.setL L 2) (upd V 2 (v)) u' where
  bel := h.bel.trans' hg hlo
  v0 := fun _ a => by simp [Go.Proofs.YtphnahabonfmmaaGreatDoor.R.setL] at a
  v1 := by have h9 := h.v1; simpa [Go.Proofs.YtphnahabonfmmaaGreatDoor.R.setL, upd, SepV] using h9
  v2 := fun _ _ => ⟨by rw [upd_self]; exact ho, fun b hb => by
    rw [upd_self] at hb
    have hs : SepV L V b := by
      rcases hv with e | e
      · exact hsep b (e.symm.trans hb)
      · rw [e] at hb
        exact h.sep_new (Nat.le_of_eq (Option.some.inj hb))
    exact ⟨fun a e => by
      rw [upd_other V v (by decide)] at e
      rw [Go.Proofs.YtphnahabonfmmaaGreatDoor.R.setL_other (by decide)] at a
      exact hs.1 a e, fun a e => by
      rw [upd_other V v (by decide)] at e
      rw [Go.Proofs.YtphnahabonfmmaaGreatDoor.R.setL_other (by decide)] at a
      exact hs.2 a e⟩⟩
  v3 := by have h9 := h.v3; simpa [Go.Proofs.YtphnahabonfmmaaGreatDoor.R.setL, upd, SepV] using h9
  v4 := fun a _ => by rw [Go.Proofs.YtphnahabonfmmaaGreatDoor.R.setL_other (by decide)] at a; exact (ne_of (h.o2 a) hl2).elim
  v5 := by have h9 := h.v5; simpa [Go.Proofs.YtphnahabonfmmaaGreatDoor.R.setL, upd, SepV] using h9
  v6 := fun a => by rw [Go.Proofs.YtphnahabonfmmaaGreatDoor.R.setL_other (by decide)] at a; exact (ne_of (h.o2 (h.o4 a)) hl2).elim
  v7 := by have h9 := h.v7; simpa [Go.Proofs.YtphnahabonfmmaaGreatDoor.R.setL, upd, SepV] using h9
  v8 := by have h9 := h.v8; simpa [Go.Proofs.YtphnahabonfmmaaGreatDoor.R.setL, upd, SepV] using h9
  v9 := by have h9 := h.v9; simpa [Go.Proofs.YtphnahabonfmmaaGreatDoor.R.setL, upd, SepV] using h9
  v10 := by have h9 := h.v10; simpa [Go.Proofs.YtphnahabonfmmaaGreatDoor.R.setL, upd, SepV] using h9
  v11 := by have h9 := (h.two_far hsep hg).1; simpa [Go.Proofs.YtphnahabonfmmaaGreatDoor.R.setL, upd] using h9
  v12 := by have h9 := (h.two_far hsep hg).2; simpa [Go.Proofs.YtphnahabonfmmaaGreatDoor.R.setL, upd] using h9
  v13 := by have h9 := h.v13; simpa [Go.Proofs.YtphnahabonfmmaaGreatDoor.R.setL, upd, SepV] using h9
  ne := by have h9 := h.ne; simpa [Go.Proofs.YtphnahabonfmmaaGreatDoor.R.setL, upd, SepV] using h9
  o2 := fun _ => Go.Proofs.YtphnahabonfmmaaGreatDoor.R.setL_self _ _
  o4 := by have h9 := h.o4; simpa [Go.Proofs.YtphnahabonfmmaaGreatDoor.R.setL, upd, SepV] using h9
  o14 := by have h9 := h.o14; simpa [Go.Proofs.YtphnahabonfmmaaGreatDoor.R.setL, upd, SepV] using h9
  o15 := by have h9 := h.o15; simpa [Go.Proofs.YtphnahabonfmmaaGreatDoor.R.setL, upd, SepV] using h9
  zb := fun a => by rw [Go.Proofs.YtphnahabonfmmaaGreatDoor.R.setL_other (by decide)] at a; exact (ne_of (h.o2 (h.o4 a)) hl2).elim
theorem js_4 (A4 : Option Addr) (c4 : Nat) (v0 : Value) (hl2 : L 2 = true) (hl4 : L 4 = false) (hsep : ∀ b, v0.ownBlock = some b → SepV L V b) (hg : u.grownBy u' v0.ownBlock) (hlo : ∀ b, v0.ownBlock = some b → W.heap.size ≤ b) (hc : na + nb ≤ c4) (hr : Rd u' u'.heap.size .u8 A4 (la ++ lb)) (h : JI W Aa Ab na ca nb cb la lb g0 g1 nz lz r0 r1 h0 h1 Az cz L V u) : JI W Aa Ab na ca nb cb la lb g0 g1 nz lz r0 r1 h0 h1 Az cz (Go.Proofs.YtphnahabonfmmaaGreatDoor.R.setL L 4) (upd V 4 (.slice A4 (na + nb) c4)) u' where
  bel := h.bel.trans' hg hlo
  v0 := fun _ a => by rw [Go.Proofs.YtphnahabonfmmaaGreatDoor.R.setL_other (by decide)] at a; exact (ne_of hl2 a).elim
  v1 := by have h9 := h.v1; simpa [Go.Proofs.YtphnahabonfmmaaGreatDoor.R.setL, upd, SepV] using h9
  v2 := fun _ a => by simp [Go.Proofs.YtphnahabonfmmaaGreatDoor.R.setL] at a
  v3 := by have h9 := h.v3; simpa [Go.Proofs.YtphnahabonfmmaaGreatDoor.R.setL, upd, SepV] using h9
  v4 := fun _ _ => ⟨A4, c4, upd_self _ _ _, hc, hr⟩
  v5 := by have h9 := h.v5; simpa [Go.Proofs.YtphnahabonfmmaaGreatDoor.R.setL, upd, SepV] using h9
  v6 := fun a => by rw [Go.Proofs.YtphnahabonfmmaaGreatDoor.R.setL_other (by decide)] at a; exact (ne_of (h.o4 a) hl4).elim
  v7 := by have h9 := h.v7; simpa [Go.Proofs.YtphnahabonfmmaaGreatDoor.R.setL, upd, SepV] using h9
  v8 := by have h9 := h.v8; simpa [Go.Proofs.YtphnahabonfmmaaGreatDoor.R.setL, upd, SepV] using h9
  v9 := by have h9 := h.v9; simpa [Go.Proofs.YtphnahabonfmmaaGreatDoor.R.setL, upd, SepV] using h9
  v10 := by have h9 := h.v10; simpa [Go.Proofs.YtphnahabonfmmaaGreatDoor.R.setL, upd, SepV] using h9
  v11 := by have h9 := (h.two_far hsep hg).1; simpa [Go.Proofs.YtphnahabonfmmaaGreatDoor.R.setL, upd] using h9
  v12 := by have h9 := (h.two_far hsep hg).2; simpa [Go.Proofs.YtphnahabonfmmaaGreatDoor.R.setL, upd] using h9
  v13 := by have h9 := h.v13; simpa [Go.Proofs.YtphnahabonfmmaaGreatDoor.R.setL, upd, SepV] using h9
  ne := by have h9 := h.ne; simpa [Go.Proofs.YtphnahabonfmmaaGreatDoor.R.setL, upd, SepV] using h9
  o2 := fun _ => by rw [Go.Proofs.YtphnahabonfmmaaGreatDoor.R.setL_other (by decide)]; exact hl2
  o4 := fun _ => Go.Proofs.YtphnahabonfmmaaGreatDoor.R.setL_self _ _
  o14 := by have h9 := h.o14; simpa [Go.Proofs.YtphnahabonfmmaaGreatDoor.R.setL, upd, SepV] using h9
  o15 := by have h9 := h.o15; simpa [Go.Proofs.YtphnahabonfmmaaGreatDoor.R.setL, upd, SepV] using h9
  zb := fun a => by rw [Go.Proofs.YtphnahabonfmmaaGreatDoor.R.setL_other (by decide)] at a; exact (ne_of (h.o4 a) hl4).elim
theorem js_6 (Ay : Option Addr) (cy : Nat) (hl4 : L 4 = true) (hl6 : L 6 = false) (hb : Bel u u') (hr : Rd u' u'.heap.size .i32 Ay lz) (hn0 : Ay = none → cy = 0) (hc : nz ≤ cy) (hfar : ∀ a, Ay = some a → u.heap.size ≤ a.block ∧ a.block < u'.heap.size) (h : JI W Aa Ab na ca nb cb la lb g0 g1 nz lz r0 r1 h0 h1 Az cz L V u) : JI W Aa Ab na ca nb cb la lb g0 g1 nz lz r0 r1 h0 h1 Ay cy (Go.Proofs.YtphnahabonfmmaaGreatDoor.R.setL L 6) (upd V 6 (.tuple #[.slice Ay nz cy, .agg #[.int .i64 r0, .int .i64 r1], .agg #[.int .i64 h0, .int .i64 h1]])) u' where
  bel := (h.grow hb).bel
  v0 := by have h9 := (h.grow hb).v0; simpa [Go.Proofs.YtphnahabonfmmaaGreatDoor.R.setL, upd, SepV] using h9
  v1 := by have h9 := h.v1; simpa [Go.Proofs.YtphnahabonfmmaaGreatDoor.R.setL, upd, SepV] using h9
  v2 := by have h9 := (h.grow hb).v2; simpa [Go.Proofs.YtphnahabonfmmaaGreatDoor.R.setL, upd, SepV] using h9
  v3 := by have h9 := h.v3; simpa [Go.Proofs.YtphnahabonfmmaaGreatDoor.R.setL, upd, SepV] using h9
  v4 := fun _ a => by simp [Go.Proofs.YtphnahabonfmmaaGreatDoor.R.setL] at a
  v5 := by have h9 := h.v5; simpa [Go.Proofs.YtphnahabonfmmaaGreatDoor.R.setL, upd, SepV] using h9
  v6 := fun _ => ⟨upd_self _ _ _, hr, hn0, hc, fun a ha => by
    have hs := h.sep_new (hfar a ha).1
    exact ⟨fun a e => by
      rw [upd_other V _ (by decide)] at e
      rw [Go.Proofs.YtphnahabonfmmaaGreatDoor.R.setL_other (by decide)] at a
      exact hs.1 a e, fun a e => by
      rw [upd_other V _ (by decide)] at e
      rw [Go.Proofs.YtphnahabonfmmaaGreatDoor.R.setL_other (by decide)] at a
      exact hs.2 a e⟩⟩
  v7 := fun a => by rw [Go.Proofs.YtphnahabonfmmaaGreatDoor.R.setL_other (by decide)] at a; exact (ne_of (h.v7 a).1 hl6).elim
  v8 := fun a => by rw [Go.Proofs.YtphnahabonfmmaaGreatDoor.R.setL_other (by decide)] at a; exact (ne_of (h.v8 a).1 hl6).elim
  v9 := by have h9 := h.v9; simpa [Go.Proofs.YtphnahabonfmmaaGreatDoor.R.setL, upd, SepV] using h9
  v10 := by have h9 := h.v10; simpa [Go.Proofs.YtphnahabonfmmaaGreatDoor.R.setL, upd, SepV] using h9
  v11 := by have h9 := (h.grow hb).v11; simpa [Go.Proofs.YtphnahabonfmmaaGreatDoor.R.setL, upd] using h9
  v12 := by have h9 := (h.grow hb).v12; simpa [Go.Proofs.YtphnahabonfmmaaGreatDoor.R.setL, upd] using h9
  v13 := fun a => by rw [Go.Proofs.YtphnahabonfmmaaGreatDoor.R.setL_other (by decide)] at a; exact (ne_of (h.v13 a).1 hl6).elim
  ne := by have h9 := h.ne; simpa [Go.Proofs.YtphnahabonfmmaaGreatDoor.R.setL, upd, SepV] using h9
  o2 := by have h9 := h.o2; simpa [Go.Proofs.YtphnahabonfmmaaGreatDoor.R.setL, upd, SepV] using h9
  o4 := fun _ => by rw [Go.Proofs.YtphnahabonfmmaaGreatDoor.R.setL_other (by decide)]; exact hl4
  o14 := fun a => by rw [Go.Proofs.YtphnahabonfmmaaGreatDoor.R.setL_other (by decide)] at a; exact (ne_of (h.o14 a).1 hl6).elim
  o15 := by have h9 := h.o15; simpa [Go.Proofs.YtphnahabonfmmaaGreatDoor.R.setL, upd, SepV] using h9
  zb := fun _ a ha => (hfar a ha).2
theorem js_11 (hl : L 11 = false) (hst : L 14 = false) (h : JI W Aa Ab na ca nb cb la lb g0 g1 nz lz r0 r1 h0 h1 Az cz L V u) : JI W Aa Ab na ca nb cb la lb g0 g1 nz lz r0 r1 h0 h1 Az cz (Go.Proofs.YtphnahabonfmmaaGreatDoor.R.setL L 11) (upd V 11 (PtrTo u.heap.size)) (u.alloc (.cells #[.int .i64 0, .int .i64 0] 35)) where
  bel := (h.grow ((Bel.refl u).alloc _)).bel
  v0 := fun a b => by
    rw [Go.Proofs.YtphnahabonfmmaaGreatDoor.R.setL_other (by decide)] at a b
    obtain ⟨k1, k2⟩ := (h.grow ((Bel.refl u).alloc (.cells #[.int .i64 0, .int .i64 0] 35))).v0 a b
    rw [upd_other V _ (by decide)]
    refine ⟨k1, fun b' hb' => ?_⟩
    have hs := k2 b' hb'
    have hlt : b' < u.heap.size := (own_block (h.v0 a b).1 hb').2
    exact ⟨fun a e => by rw [upd_self] at e; have := ptr_inj e; omega, fun a e => by rw [upd_other V _ (by decide)] at e; rw [Go.Proofs.YtphnahabonfmmaaGreatDoor.R.setL_other (by decide)] at a; exact hs.2 a e⟩
  v1 := by have h9 := h.v1; simpa [Go.Proofs.YtphnahabonfmmaaGreatDoor.R.setL, upd, SepV] using h9
  v2 := fun a b => by
    rw [Go.Proofs.YtphnahabonfmmaaGreatDoor.R.setL_other (by decide)] at a b
    obtain ⟨k1, k2⟩ := (h.grow ((Bel.refl u).alloc (.cells #[.int .i64 0, .int .i64 0] 35))).v2 a b
    rw [upd_other V _ (by decide)]
    refine ⟨k1, fun b' hb' => ?_⟩
    have hs := k2 b' hb'
    have hlt : b' < u.heap.size := (own_block (h.v2 a b).1 hb').2
    exact ⟨fun a e => by rw [upd_self] at e; have := ptr_inj e; omega, fun a e => by rw [upd_other V _ (by decide)] at e; rw [Go.Proofs.YtphnahabonfmmaaGreatDoor.R.setL_other (by decide)] at a; exact hs.2 a e⟩
  v3 := by have h9 := h.v3; simpa [Go.Proofs.YtphnahabonfmmaaGreatDoor.R.setL, upd, SepV] using h9
  v4 := by have h9 := (h.grow ((Bel.refl u).alloc (.cells #[.int .i64 0, .int .i64 0] 35))).v4; simpa [Go.Proofs.YtphnahabonfmmaaGreatDoor.R.setL, upd] using h9
  v5 := by have h9 := h.v5; simpa [Go.Proofs.YtphnahabonfmmaaGreatDoor.R.setL, upd, SepV] using h9
  v6 := fun a => by
    rw [Go.Proofs.YtphnahabonfmmaaGreatDoor.R.setL_other (by decide)] at a
    obtain ⟨k1, k2, k3, k4, k5⟩ := (h.grow ((Bel.refl u).alloc (.cells #[.int .i64 0, .int .i64 0] 35))).v6 a
    rw [upd_other V _ (by decide)]
    refine ⟨k1, k2, k3, k4, fun a' ha' => ?_⟩
    have hs := k5 a' ha'
    have hlt : a'.block < u.heap.size := h.zb a a' ha'
    exact ⟨fun a e => by rw [upd_self] at e; have := ptr_inj e; omega, fun a e => by rw [upd_other V _ (by decide)] at e; rw [Go.Proofs.YtphnahabonfmmaaGreatDoor.R.setL_other (by decide)] at a; exact hs.2 a e⟩
  v7 := by have h9 := h.v7; simpa [Go.Proofs.YtphnahabonfmmaaGreatDoor.R.setL, upd, SepV] using h9
  v8 := by have h9 := h.v8; simpa [Go.Proofs.YtphnahabonfmmaaGreatDoor.R.setL, upd, SepV] using h9
  v9 := by have h9 := h.v9; simpa [Go.Proofs.YtphnahabonfmmaaGreatDoor.R.setL, upd, SepV] using h9
  v10 := by have h9 := h.v10; simpa [Go.Proofs.YtphnahabonfmmaaGreatDoor.R.setL, upd, SepV] using h9
  v11 := fun _ => ⟨u.heap.size, upd_self _ _ _, Below.size h.bel, by rw [Go.Proofs.YtphnahabonfmmaaGreatDoor.R.setL_other (by decide), hst]; exact Two.new u _ 0 0⟩
  v12 := by have h9 := (h.grow ((Bel.refl u).alloc (.cells #[.int .i64 0, .int .i64 0] 35))).v12; simpa [Go.Proofs.YtphnahabonfmmaaGreatDoor.R.setL, upd] using h9
  v13 := by have h9 := h.v13; simpa [Go.Proofs.YtphnahabonfmmaaGreatDoor.R.setL, upd, SepV] using h9
  ne := fun a b e => by
    rw [Go.Proofs.YtphnahabonfmmaaGreatDoor.R.setL_other (by decide)] at b
    rw [upd_self, upd_other V _ (by decide)] at e
    exact (h.sep_new (Nat.le_refl _)).2 b (e.symm)
  o2 := by have h9 := h.o2; simpa [Go.Proofs.YtphnahabonfmmaaGreatDoor.R.setL, upd, SepV] using h9
  o4 := by have h9 := h.o4; simpa [Go.Proofs.YtphnahabonfmmaaGreatDoor.R.setL, upd, SepV] using h9
  o14 := fun a => by rw [Go.Proofs.YtphnahabonfmmaaGreatDoor.R.setL_other (by decide)] at a; exact (ne_of (h.o14 a).2.1 hl).elim
  o15 := by have h9 := h.o15; simpa [Go.Proofs.YtphnahabonfmmaaGreatDoor.R.setL, upd, SepV] using h9
  zb := fun a b c => by rw [Go.Proofs.YtphnahabonfmmaaGreatDoor.R.setL_other (by decide)] at a; exact (h.grow ((Bel.refl u).alloc (.cells #[.int .i64 0, .int .i64 0] 35))).zb a b c
theorem js_12 (hl : L 12 = false) (hst : L 15 = false) (h : JI W Aa Ab na ca nb cb la lb g0 g1 nz lz r0 r1 h0 h1 Az cz L V u) : JI W Aa Ab na ca nb cb la lb g0 g1 nz lz r0 r1 h0 h1 Az cz (Go.Proofs.YtphnahabonfmmaaGreatDoor.R.setL L 12) (upd V 12 (PtrTo u.heap.size)) (u.alloc (.cells #[.int .i64 0, .int .i64 0] 38)) where
  bel := (h.grow ((Bel.refl u).alloc _)).bel
  v0 := fun a b => by
    rw [Go.Proofs.YtphnahabonfmmaaGreatDoor.R.setL_other (by decide)] at a b
    obtain ⟨k1, k2⟩ := (h.grow ((Bel.refl u).alloc (.cells #[.int .i64 0, .int .i64 0] 38))).v0 a b
    rw [upd_other V _ (by decide)]
    refine ⟨k1, fun b' hb' => ?_⟩
    have hs := k2 b' hb'
    have hlt : b' < u.heap.size := (own_block (h.v0 a b).1 hb').2
    exact ⟨fun a e => by rw [upd_other V _ (by decide)] at e; rw [Go.Proofs.YtphnahabonfmmaaGreatDoor.R.setL_other (by decide)] at a; exact hs.1 a e, fun a e => by rw [upd_self] at e; have := ptr_inj e; omega⟩
  v1 := by have h9 := h.v1; simpa [Go.Proofs.YtphnahabonfmmaaGreatDoor.R.setL, upd, SepV] using h9
  v2 := fun a b => by
    rw [Go.Proofs.YtphnahabonfmmaaGreatDoor.R.setL_other (by decide)] at a b
    obtain ⟨k1, k2⟩ := (h.grow ((Bel.refl u).alloc (.cells #[.int .i64 0, .int .i64 0] 38))).v2 a b
    rw [upd_other V _ (by decide)]
    refine ⟨k1, fun b' hb' => ?_⟩
    have hs := k2 b' hb'
    have hlt : b' < u.heap.size := (own_block (h.v2 a b).1 hb').2
    exact ⟨fun a e => by rw [upd_other V _ (by decide)] at e; rw [Go.Proofs.YtphnahabonfmmaaGreatDoor.R.setL_other (by decide)] at a; exact hs.1 a e, fun a e => by rw [upd_self] at e; have := ptr_inj e; omega⟩
  v3 := by have h9 := h.v3; simpa [Go.Proofs.YtphnahabonfmmaaGreatDoor.R.setL, upd, SepV] using h9
  v4 := by have h9 := (h.grow ((Bel.refl u).alloc (.cells #[.int .i64 0, .int .i64 0] 38))).v4; simpa [Go.Proofs.YtphnahabonfmmaaGreatDoor.R.setL, upd] using h9
  v5 := by have h9 := h.v5; simpa [Go.Proofs.YtphnahabonfmmaaGreatDoor.R.setL, upd, SepV] using h9
  v6 := fun a => by
    rw [Go.Proofs.YtphnahabonfmmaaGreatDoor.R.setL_other (by decide)] at a
    obtain ⟨k1, k2, k3, k4, k5⟩ := (h.grow ((Bel.refl u).alloc (.cells #[.int .i64 0, .int .i64 0] 38))).v6 a
    rw [upd_other V _ (by decide)]
    refine ⟨k1, k2, k3, k4, fun a' ha' => ?_⟩
    have hs := k5 a' ha'
    have hlt : a'.block < u.heap.size := h.zb a a' ha'
    exact ⟨fun a e => by rw [upd_other V _ (by decide)] at e; rw [Go.Proofs.YtphnahabonfmmaaGreatDoor.R.setL_other (by decide)] at a; exact hs.1 a e, fun a e => by rw [upd_self] at e; have := ptr_inj e; omega⟩
  v7 := by have h9 := h.v7; simpa [Go.Proofs.YtphnahabonfmmaaGreatDoor.R.setL, upd, SepV] using h9
  v8 := by have h9 := h.v8; simpa [Go.Proofs.YtphnahabonfmmaaGreatDoor.R.setL, upd, SepV] using h9
  v9 := by have h9 := h.v9; simpa [Go.Proofs.YtphnahabonfmmaaGreatDoor.R.setL, upd, SepV] using h9
  v10 := by have h9 := h.v10; simpa [Go.Proofs.YtphnahabonfmmaaGreatDoor.R.setL, upd, SepV] using h9
  v11 := by have h9 := (h.grow ((Bel.refl u).alloc (.cells #[.int .i64 0, .int .i64 0] 38))).v11; simpa [Go.Proofs.YtphnahabonfmmaaGreatDoor.R.setL, upd] using h9
  v12 := fun _ => ⟨u.heap.size, upd_self _ _ _, Below.size h.bel, by rw [Go.Proofs.YtphnahabonfmmaaGreatDoor.R.setL_other (by decide), hst]; exact Two.new u _ 0 0⟩
  v13 := by have h9 := h.v13; simpa [Go.Proofs.YtphnahabonfmmaaGreatDoor.R.setL, upd, SepV] using h9
  ne := fun a b e => by
    rw [Go.Proofs.YtphnahabonfmmaaGreatDoor.R.setL_other (by decide)] at a
    rw [upd_self, upd_other V _ (by decide)] at e
    exact (h.sep_new (Nat.le_refl _)).1 a (e)
  o2 := by have h9 := h.o2; simpa [Go.Proofs.YtphnahabonfmmaaGreatDoor.R.setL, upd, SepV] using h9
  o4 := by have h9 := h.o4; simpa [Go.Proofs.YtphnahabonfmmaaGreatDoor.R.setL, upd, SepV] using h9
  o14 := fun a => by rw [Go.Proofs.YtphnahabonfmmaaGreatDoor.R.setL_other (by decide)] at a; exact (ne_of (h.o14 a).2.2 hl).elim
  o15 := by have h9 := h.o15; simpa [Go.Proofs.YtphnahabonfmmaaGreatDoor.R.setL, upd, SepV] using h9
  zb := fun a b c => by rw [Go.Proofs.YtphnahabonfmmaaGreatDoor.R.setL_other (by decide)] at a; exact (h.grow ((Bel.refl u).alloc (.cells #[.int .i64 0, .int .i64 0] 38))).zb a b c
theorem js_14 (p : Nat) (h11 : L 11 = true) (h12 : L 12 = true) (h6 : L 6 = true) (hv : V 11 = PtrTo p) (hp : W.heap.size ≤ p) {x y : Int} (ht : Two u p x y) (h : JI W Aa Ab na ca nb cb la lb g0 g1 nz lz r0 r1 h0 h1 Az cz L V u) : JI W Aa Ab na ca nb cb la lb g0 g1 nz lz r0 r1 h0 h1 Az cz (Go.Proofs.YtphnahabonfmmaaGreatDoor.R.setL L 14) (upd V 14 (undef)) ((u.setCell ⟨p, 0, none⟩ (.int .i64 r0)).setCell ⟨p, 1, none⟩ (.int .i64 r1)) where
  bel := (h.bel.setCell (by exact hp) _).setCell (by exact hp) _
  v0 := fun _ a => by rw [Go.Proofs.YtphnahabonfmmaaGreatDoor.R.setL_other (by decide)] at a; exact (ne_of (h.o2 (h.o4 h6)) a).elim
  v1 := by have h9 := h.v1; simpa [Go.Proofs.YtphnahabonfmmaaGreatDoor.R.setL, upd, SepV] using h9
  v2 := fun _ a => by rw [Go.Proofs.YtphnahabonfmmaaGreatDoor.R.setL_other (by decide)] at a; exact (ne_of (h.o4 h6) a).elim
  v3 := by have h9 := h.v3; simpa [Go.Proofs.YtphnahabonfmmaaGreatDoor.R.setL, upd, SepV] using h9
  v4 := fun _ a => by rw [Go.Proofs.YtphnahabonfmmaaGreatDoor.R.setL_other (by decide)] at a; exact (ne_of h6 a).elim
  v5 := by have h9 := h.v5; simpa [Go.Proofs.YtphnahabonfmmaaGreatDoor.R.setL, upd, SepV] using h9
  v6 := fun a => by
    rw [Go.Proofs.YtphnahabonfmmaaGreatDoor.R.setL_other (by decide)] at a
    obtain ⟨k1, k2, k3, k4, k5⟩ := h.v6 a
    rw [upd_other V _ (by decide)]
    refine ⟨k1, ?_, k3, k4, fun a' ha' => ?_⟩
    · have hs : ∀ a', Az = some a' → a'.block ≠ p := fun a' ha' e => (k5 a' ha').1 h11 (by rw [hv, e])
      have h9 := rd_set (rd_set k2 hs 0 (.int .i64 r0)) hs 1 (.int .i64 r1)
      simpa using h9.here
    · have hs := k5 a' ha'
      exact ⟨fun a e => by
        rw [upd_other V _ (by decide)] at e
        rw [Go.Proofs.YtphnahabonfmmaaGreatDoor.R.setL_other (by decide)] at a
        exact hs.1 a e, fun a e => by
        rw [upd_other V _ (by decide)] at e
        rw [Go.Proofs.YtphnahabonfmmaaGreatDoor.R.setL_other (by decide)] at a
        exact hs.2 a e⟩
  v7 := by have h9 := h.v7; simpa [Go.Proofs.YtphnahabonfmmaaGreatDoor.R.setL, upd, SepV] using h9
  v8 := by have h9 := h.v8; simpa [Go.Proofs.YtphnahabonfmmaaGreatDoor.R.setL, upd, SepV] using h9
  v9 := by have h9 := h.v9; simpa [Go.Proofs.YtphnahabonfmmaaGreatDoor.R.setL, upd, SepV] using h9
  v10 := by have h9 := h.v10; simpa [Go.Proofs.YtphnahabonfmmaaGreatDoor.R.setL, upd, SepV] using h9
  v11 := fun _ => ⟨p, by rw [upd_other V _ (by decide)]; exact hv, hp, by
    rw [Go.Proofs.YtphnahabonfmmaaGreatDoor.R.setL_self]
    exact ht.set _ _⟩
  v12 := fun a => by
    rw [Go.Proofs.YtphnahabonfmmaaGreatDoor.R.setL_other (by decide)] at a
    obtain ⟨q, k1, k2, k3⟩ := h.v12 a
    rw [upd_other V _ (by decide), Go.Proofs.YtphnahabonfmmaaGreatDoor.R.setL_other (by decide)]
    have hqp : q ≠ p := fun e => h.ne h11 h12 (by rw [hv, k1, e])
    exact ⟨q, k1, k2, (k3.other hqp 0 _).other hqp 1 _⟩
  v13 := by have h9 := h.v13; simpa [Go.Proofs.YtphnahabonfmmaaGreatDoor.R.setL, upd, SepV] using h9
  ne := by have h9 := h.ne; simpa [Go.Proofs.YtphnahabonfmmaaGreatDoor.R.setL, upd, SepV] using h9
  o2 := by have h9 := h.o2; simpa [Go.Proofs.YtphnahabonfmmaaGreatDoor.R.setL, upd, SepV] using h9
  o4 := by have h9 := h.o4; simpa [Go.Proofs.YtphnahabonfmmaaGreatDoor.R.setL, upd, SepV] using h9
  o14 := fun _ => by rw [Go.Proofs.YtphnahabonfmmaaGreatDoor.R.setL_other (by decide), Go.Proofs.YtphnahabonfmmaaGreatDoor.R.setL_other (by decide), Go.Proofs.YtphnahabonfmmaaGreatDoor.R.setL_other (by decide)]; exact ⟨h6, h11, h12⟩
  o15 := fun _ => Go.Proofs.YtphnahabonfmmaaGreatDoor.R.setL_self _ _
  zb := fun a b c => by rw [Go.Proofs.YtphnahabonfmmaaGreatDoor.R.setL_other (by decide)] at a; simpa using h.zb a b c
theorem js_15 (p : Nat) (h11 : L 11 = true) (h12 : L 12 = true) (hl : L 14 = true) (hv : V 12 = PtrTo p) (hp : W.heap.size ≤ p) {x y : Int} (ht : Two u p x y) (h : JI W Aa Ab na ca nb cb la lb g0 g1 nz lz r0 r1 h0 h1 Az cz L V u) : JI W Aa Ab na ca nb cb la lb g0 g1 nz lz r0 r1 h0 h1 Az cz (Go.Proofs.YtphnahabonfmmaaGreatDoor.R.setL L 15) (upd V 15 (undef)) ((u.setCell ⟨p, 0, none⟩ (.int .i64 h0)).setCell ⟨p, 1, none⟩ (.int .i64 h1)) where
  bel := (h.bel.setCell (by exact hp) _).setCell (by exact hp) _
  v0 := fun _ a => by rw [Go.Proofs.YtphnahabonfmmaaGreatDoor.R.setL_other (by decide)] at a; exact (ne_of (h.o2 (h.o4 (h.o14 hl).1)) a).elim
  v1 := by have h9 := h.v1; simpa [Go.Proofs.YtphnahabonfmmaaGreatDoor.R.setL, upd, SepV] using h9
  v2 := fun _ a => by rw [Go.Proofs.YtphnahabonfmmaaGreatDoor.R.setL_other (by decide)] at a; exact (ne_of (h.o4 (h.o14 hl).1) a).elim
  v3 := by have h9 := h.v3; simpa [Go.Proofs.YtphnahabonfmmaaGreatDoor.R.setL, upd, SepV] using h9
  v4 := fun _ a => by rw [Go.Proofs.YtphnahabonfmmaaGreatDoor.R.setL_other (by decide)] at a; exact (ne_of (h.o14 hl).1 a).elim
  v5 := by have h9 := h.v5; simpa [Go.Proofs.YtphnahabonfmmaaGreatDoor.R.setL, upd, SepV] using h9
  v6 := fun a => by
    rw [Go.Proofs.YtphnahabonfmmaaGreatDoor.R.setL_other (by decide)] at a
    obtain ⟨k1, k2, k3, k4, k5⟩ := h.v6 a
    rw [upd_other V _ (by decide)]
    refine ⟨k1, ?_, k3, k4, fun a' ha' => ?_⟩
    · have hs : ∀ a', Az = some a' → a'.block ≠ p := fun a' ha' e => (k5 a' ha').2 h12 (by rw [hv, e])
      have h9 := rd_set (rd_set k2 hs 0 (.int .i64 h0)) hs 1 (.int .i64 h1)
      simpa using h9.here
    · have hs := k5 a' ha'
      exact ⟨fun a e => by
        rw [upd_other V _ (by decide)] at e
        rw [Go.Proofs.YtphnahabonfmmaaGreatDoor.R.setL_other (by decide)] at a
        exact hs.1 a e, fun a e => by
        rw [upd_other V _ (by decide)] at e
        rw [Go.Proofs.YtphnahabonfmmaaGreatDoor.R.setL_other (by decide)] at a
        exact hs.2 a e⟩
  v7 := by have h9 := h.v7; simpa [Go.Proofs.YtphnahabonfmmaaGreatDoor.R.setL, upd, SepV] using h9
  v8 := by have h9 := h.v8; simpa [Go.Proofs.YtphnahabonfmmaaGreatDoor.R.setL, upd, SepV] using h9
  v9 := by have h9 := h.v9; simpa [Go.Proofs.YtphnahabonfmmaaGreatDoor.R.setL, upd, SepV] using h9
  v10 := by have h9 := h.v10; simpa [Go.Proofs.YtphnahabonfmmaaGreatDoor.R.setL, upd, SepV] using h9
  v11 := fun a => by
    rw [Go.Proofs.YtphnahabonfmmaaGreatDoor.R.setL_other (by decide)] at a
    obtain ⟨q, k1, k2, k3⟩ := h.v11 a
    rw [upd_other V _ (by decide), Go.Proofs.YtphnahabonfmmaaGreatDoor.R.setL_other (by decide)]
    have hqp : q ≠ p := fun e => h.ne h11 h12 (by rw [k1, hv, e])
    exact ⟨q, k1, k2, (k3.other hqp 0 _).other hqp 1 _⟩
  v12 := fun _ => ⟨p, by rw [upd_other V _ (by decide)]; exact hv, hp, by
    rw [Go.Proofs.YtphnahabonfmmaaGreatDoor.R.setL_self]
    exact ht.set _ _⟩
  v13 := by have h9 := h.v13; simpa [Go.Proofs.YtphnahabonfmmaaGreatDoor.R.setL, upd, SepV] using h9
  ne := by have h9 := h.ne; simpa [Go.Proofs.YtphnahabonfmmaaGreatDoor.R.setL, upd, SepV] using h9
  o2 := by have h9 := h.o2; simpa [Go.Proofs.YtphnahabonfmmaaGreatDoor.R.setL, upd, SepV] using h9
  o4 := by have h9 := h.o4; simpa [Go.Proofs.YtphnahabonfmmaaGreatDoor.R.setL, upd, SepV] using h9
  o14 := by have h9 := h.o14; simpa [Go.Proofs.YtphnahabonfmmaaGreatDoor.R.setL, upd, SepV] using h9
  o15 := fun _ => by rw [Go.Proofs.YtphnahabonfmmaaGreatDoor.R.setL_other (by decide)]; exact hl
  zb := fun a b c => by rw [Go.Proofs.YtphnahabonfmmaaGreatDoor.R.setL_other (by decide)] at a; simpa using h.zb a b c
end
end Go.Proofs.YtphnahabonfmmaaGreatDoor.D
namespace Go.Proofs.YtphnahabonfmmaaGreatDoor.D
open Go.RowKit U V
set_option linter.unusedVariables false

theorem step_first {l : List Int} {p : Int} {s s' : St} {n : Nat} {B : Int} (h : step l p s = .ok (n, s')) (hf : s.marks ≠ [] → 0 ≤ s.first ∧ s.first ≤ B) (hp : 0 ≤ p ∧ p ≤ B) : s'.marks ≠ [] → 0 ≤ s'.first ∧ s'.first ≤ B := by
  unfold step at h
  split at h
  · cases he : escL l with
    | none => rw [he] at h; cases h
    | some x =>
      obtain ⟨side, set, m⟩ := x
      rw [he] at h
      simp only [Except.ok.injEq, Prod.mk.injEq] at h
      obtain ⟨_, rfl⟩ := h
      split <;> exact hf
  · cases hb : bareL (l.headD 0) with
    | some c =>
      rw [hb] at h
      dsimp only at h
      split at h
      · simp only [Except.ok.injEq, Prod.mk.injEq] at h
        obtain ⟨_, rfl⟩ := h
        exact hf
      · cases h
    | none =>
      rw [hb] at h
      cases hc : chr s.g0 s.g1 l with
      | none => rw [hc] at h; cases h
      | some x =>
        obtain ⟨c, m⟩ := x
        rw [hc] at h
        dsimp only at h
        split at h
        · simp only [Except.ok.injEq, Prod.mk.injEq] at h
          obtain ⟨_, rfl⟩ := h
          intro _
          dsimp only
          split
          · exact hp
          · rename_i hm
            exact hf hm
        · simp only [Except.ok.injEq, Prod.mk.injEq] at h
          obtain ⟨_, rfl⟩ := h
          exact fun e => absurd rfl e
theorem step_epos {l : List Int} {p : Int} {s : St} {f : Int × Int} {B : Int} (h : step l p s = .error f) (hf : s.marks ≠ [] → 0 ≤ s.first ∧ s.first ≤ B) (hp : 0 ≤ p ∧ p ≤ B) : 0 ≤ f.2 ∧ f.2 ≤ B := by
  unfold step at h
  split at h
  · cases he : escL l with
    | none => rw [he] at h; cases h; exact hp
    | some x => rw [he] at h; cases h
  · cases hb : bareL (l.headD 0) with
    | some c =>
      rw [hb] at h
      dsimp only at h
      split at h
      · cases h
      · rename_i hm
        cases h
        exact hf hm
    | none =>
      rw [hb] at h
      cases hc : chr s.g0 s.g1 l with
      | none => rw [hc] at h; cases h; exact hp
      | some x =>
        rw [hc] at h
        dsimp only at h
        split at h <;> cases h
theorem run_pos : ∀ (k : Nat) {l : List Int} {p : Int} {s : St} {B : Int}, (s.marks ≠ [] → 0 ≤ s.first ∧ s.first ≤ B) → 0 ≤ p → p + l.length ≤ B → (∀ f, fin (run k l p s) = .error f → 0 ≤ f.2 ∧ f.2 ≤ B)
  | 0, l, p, s, B, hf, h0, h1, f, h => by
    simp only [run, fin] at h
    split at h
    · cases h
    · rename_i hm
      cases h
      exact hf hm
  | k + 1, l, p, s, B, hf, h0, h1, f, h => by
    by_cases hl : l = []
    · subst hl
      rw [run_nil] at h
      simp only [fin] at h
      split at h
      · cases h
      · rename_i hm
        cases h
        exact hf hm
    · rcases hs : step l p s with g | ⟨n, s1⟩
      · rw [run_bad hl hs] at h
        cases h
        exact step_epos hs hf ⟨h0, by omega⟩
      · rw [run_next hl hs] at h
        have h3 := step_size hl hs
        exact run_pos k (step_first hs hf ⟨h0, by omega⟩) (by omega) (by rw [List.length_drop]; omega) f h
theorem dec_pos {l : List Int} {g0 g1 : Int} {f : Int × Int} (h : dec l g0 g1 = .error f) : 0 ≤ f.2 ∧ f.2 ≤ l.length := by
  unfold dec at h
  split at h
  · exact run_pos l.length (B := (l.length : Int)) (fun e => absurd rfl e) (Int.le_refl 0) (by omega) f h
  · cases h
    exact ⟨Int.le_refl 0, by simp⟩
def oD : Out → List Int
  | .error _ => []
  | .ok s => s.done
def oG : Out → Int × Int
  | .error _ => (0, 0)
  | .ok s => (s.g0, s.g1)
def oF : Out → Int × Int
  | .error f => f
  | .ok _ => (0, 0)
/-- What Decode answers, in one form. -/
def DecQ (w : World) (nz : Nat) (lz : List Int) (r0 r1 h0 h1 : Int) (e : Ending) (w' : World) : Prop :=
  ∃ A cap, e = .returned (.tuple #[.slice A nz cap, .agg #[.int .i64 r0, .int .i64 r1], .agg #[.int .i64 h0, .int .i64 h1]]) ∧ nz ≤ cap ∧ Rd w' w'.heap.size .i32 A lz ∧ (A = none → cap = 0) ∧ (∀ a, A = some a → w.heap.size ≤ a.block ∧ a.block < w'.heap.size) ∧ Bel w w'
theorem decode_q (A : Option Addr) (n cap : Nat) (l : List Int) (g0 g1 : Int) (o : Out) (w : World) (nz : Nat) (lz : List Int) (r0 r1 h0 h1 : Int) (hZ : Dz w) (hA : Rd w w.heap.size .u8 A l) (hn : l.length = n) (hc : n ≤ cap) (hn' : n ≤ 1099511627775) (hb : ∀ x ∈ l, 0 ≤ x ∧ x < 256) (ho : dec l g0 g1 = o)
    (hz : oD o = lz) (hnz : lz.length = nz) (hg : oG o = (r0, r1)) (hf : oF o = (h0, h1)) :
    Calls Tryz.prog 12 #[.slice A n cap, .agg #[.int .i64 g0, .int .i64 g1]] w (DecQ w nz lz r0 r1 h0 h1) := by
  refine (decode_is A n cap l g0 g1 o w hZ hA hn hc hn' hb ho).mono ?_
  intro e w' hp
  subst hz hnz
  rcases o with ⟨x, y⟩ | s
  · obtain ⟨rfl, rfl⟩ := Prod.mk.inj hg
    obtain ⟨rfl, rfl⟩ := Prod.mk.inj hf
    obtain ⟨he, hb'⟩ := hp
    exact ⟨none, 0, he, Nat.le_refl _, Rd.nil, fun _ => rfl, (fun a h => by cases h), hb'⟩
  · obtain ⟨rfl, rfl⟩ := Prod.mk.inj hg
    obtain ⟨rfl, rfl⟩ := Prod.mk.inj hf
    obtain ⟨A', c', he, h1, h2, h3, h4, h5⟩ := hp
    exact ⟨A', c', he, h1, h2, h3, h4, h5⟩

/-- The frame, by what the drawn statement's operations have yielded. -/
def jF (Aa Ab Ax Ay : Option Addr) (na ca nb cb nx cx ny cy B5 P8 P9 P11 P12 : Nat) (g0 g1 p0 p1 f0 f1 u0 u1 e0 e1 : Int) (V : Nat → Value) : Act := { tmps := #[.slice Aa na ca, .slice Ab nb cb, .agg #[.int .i64 g0, .int .i64 g1], undef, undef, .pointer (some ⟨B5, 0, none⟩), .bool false, .slice Ax nx cx, .pointer (some ⟨P8, 0, none⟩), .pointer (some ⟨P9, 0, none⟩), .slice Ay ny cy, .pointer (some ⟨P11, 0, none⟩), .pointer (some ⟨P12, 0, none⟩), V 13, V 11, V 12, .slice Aa na ca, .int .i64 na, .bool false, .bool false, .slice Ab nb cb, .int .i64 nb, .bool false, .bool false, undef, .tuple #[.slice Ax nx cx, .agg #[.int .i64 p0, .int .i64 p1], .agg #[.int .i64 f0, .int .i64 f1]], .slice Aa na ca, .agg #[.int .i64 g0, .int .i64 g1], .tuple #[.slice Ax nx cx, .agg #[.int .i64 p0, .int .i64 p1], .agg #[.int .i64 f0, .int .i64 f1]], .slice Ax nx cx, .agg #[.int .i64 p0, .int .i64 p1], .agg #[.int .i64 f0, .int .i64 f1], .pointer (some ⟨P9, 0, none⟩), .int .i64 f0, .bool false, undef, .tuple #[.slice Ay ny cy, .agg #[.int .i64 u0, .int .i64 u1], .agg #[.int .i64 e0, .int .i64 e1]], .slice Ab nb cb, .agg #[.int .i64 p0, .int .i64 p1], .tuple #[.slice Ay ny cy, .agg #[.int .i64 u0, .int .i64 u1], .agg #[.int .i64 e0, .int .i64 e1]], .slice Ay ny cy, .agg #[.int .i64 u0, .int .i64 u1], .agg #[.int .i64 e0, .int .i64 e1], V 7, V 0, V 1, V 2, V 3, V 4, V 5, V 6, V 8, V 9, V 10, undef, undef, undef, undef, undef, undef, undef, undef, undef, undef, undef, undef, undef, undef, undef, undef, undef, undef, undef, undef, undef, undef, undef, undef, undef, undef, undef, undef, undef, undef, undef, undef], defers := [] }
theorem info8' : (Tryz.prog.info? 5).map (fun i => (i.zero, i.size, i.bytes)) = some (some (.int .u8 0), 1, 1) := by kernel_rfl
set_option maxRecDepth 100000 in
set_option maxHeartbeats 16000000 in
theorem joins_walk (Aa Ab : Option Addr) (na ca nb cb : Nat) (la lb : List Int) (g0 g1 : Int) (w : World) (hZ : Dz w)
    (hA : Rd w w.heap.size .u8 Aa la) (hna : la.length = na) (hca : na ≤ ca) (hnila : Aa = none → ca = 0) (hba : ∀ x ∈ la, 0 ≤ x ∧ x < 256)
    (hB : Rd w w.heap.size .u8 Ab lb) (hnb : lb.length = nb) (hcb : nb ≤ cb) (hnilb : Ab = none → cb = 0) (hbb : ∀ x ∈ lb, 0 ≤ x ∧ x < 256) (h3a : na ≤ 300) (h3b : nb ≤ 300) :
    Calls Tryz.prog 5 #[.slice Aa na ca, .slice Ab nb cb, .agg #[.int .i64 g0, .int .i64 g1]] w (AnsP w) := by
  obtain ⟨i0, hi0, hi1, hi2, hi3⟩ := info_parts info8'
  obtain ⟨m0, hm0, hm1, hm2, hm3⟩ := info_parts info32
  obtain ⟨oa, hoa⟩ : ∃ o, dec la g0 g1 = o := ⟨_, rfl⟩
  obtain ⟨lx, hlx⟩ : ∃ x, oD oa = x := ⟨_, rfl⟩
  obtain ⟨nx, hnx⟩ : ∃ x, lx.length = x := ⟨_, rfl⟩
  obtain ⟨⟨p0, p1⟩, hp⟩ : ∃ x, oG oa = x := ⟨_, rfl⟩
  obtain ⟨⟨f0, f1⟩, hf⟩ : ∃ x, oF oa = x := ⟨_, rfl⟩
  have hb0 := (Bel.refl w).alloc (.cells #[.int .i64 g0, .int .i64 g1] 35)
  have HD1 := Lib.hid (decode_q Aa na ca la g0 g1 oa _ nx lx p0 p1 f0 f1 (hZ.bel hb0) (hA.bel hb0).here hna hca (by omega) hba hoa hlx hnx hp hf)
  have T5 := Lib.hid (Two.new w 35 g0 g1)
  have HB0 := Lib.hid hb0
  have HZ := Lib.hid hZ
  have HA := Lib.hid (And.intro hA (And.intro hna (And.intro hca (And.intro hnila hba))))
  have HB := Lib.hid (And.intro hB (And.intro hnb (And.intro hcb (And.intro hnilb hbb))))
  have HOA := Lib.hid (And.intro hoa (And.intro hlx (And.intro hnx (And.intro hp hf))))
  have H3 := Lib.hid (And.intro h3a h3b)
  have q0 : decide ((300 : Int) < (na : Int)) = false := decide_eq_false (by omega)
  have q0' : ¬ (300 : Int) < (na : Int) := by omega
  have q1 : decide ((300 : Int) < (nb : Int)) = false := decide_eq_false (by omega)
  have q1' : ¬ (300 : Int) < (nb : Int) := by omega
  obtain ⟨t0, t1, _, _⟩ := id T5.out
  clear hZ hA hna hca hnila hba hB hnb hcb hnilb hbb hoa hlx hnx hp hf h3a h3b hb0
  go_enter Tryz.func5, Tryz.ntmps5
  go_wp2_with fail
  generalize w.alloc (.cells #[.int .i64 g0, .int .i64 g1] 35) = w1 at *
  with_reducible refine HD1.out.mono ?_
  rintro e w2 ⟨Ax, cx, rfl, hcx, hrx, hnx0, hfx, hb2⟩
  have HBx := Lib.hid (HB0.out.trans hb2)
  have T5x := Lib.hid (T5.out.bel hb2)
  have hbq : Bel w2 ((w2.alloc (.cells #[.int .i64 p0, .int .i64 p1] 35)).alloc (.cells #[.int .i64 f0, .int .i64 f1] 38)) := ((Bel.refl w2).alloc _).alloc _
  have HX := Lib.hid (And.intro hcx (And.intro (hrx.bel hbq).here hnx0))
  have HB3 := Lib.hid (HBx.out.trans hbq)
  have T53 := Lib.hid (T5x.out.bel hbq)
  have T8 := Lib.hid ((Two.new w2 35 p0 p1).bel ((Bel.refl _).alloc (.cells #[.int .i64 f0, .int .i64 f1] 38)))
  have hbs : (w2.alloc (.cells #[.int .i64 p0, .int .i64 p1] 35)).heap.size = w2.heap.size + 1 := by simp
  have hT9 := Two.new (w2.alloc (.cells #[.int .i64 p0, .int .i64 p1] 35)) 38 f0 f1
  rw [hbs] at hT9
  have T9 := Lib.hid hT9
  clear hcx hrx hnx0 hfx hb2 hbq hbs hT9 T5 T5x HD1 HB0 HBx t0 t1
  by_cases hf0 : f0 = 0
  · have qf : (f0 != 0) = false := by simpa using hf0
    obtain ⟨s0, hs0⟩ : ∃ s, oa = .ok s := by
      rcases oa with ⟨x, y⟩ | s
      · exfalso
        have h1 := dec_err HOA.out.1
        have h2 := HOA.out.2.2.2.2
        have h3 : x = f0 := congrArg Prod.fst h2
        dsimp only at h1
        omega
      · exact ⟨s, rfl⟩
    subst hs0
    obtain ⟨ob, hob⟩ : ∃ o, dec lb p0 p1 = o := ⟨_, rfl⟩
    obtain ⟨ly, hly⟩ : ∃ x, oD ob = x := ⟨_, rfl⟩
    obtain ⟨ny, hny⟩ : ∃ x, ly.length = x := ⟨_, rfl⟩
    obtain ⟨⟨u0, u1⟩, hu⟩ : ∃ x, oG ob = x := ⟨_, rfl⟩
    obtain ⟨⟨e0, e1⟩, he⟩ : ∃ x, oF ob = x := ⟨_, rfl⟩
    have HOB := Lib.hid (And.intro hob (And.intro hly (And.intro hny (And.intro hu he))))
    have HD2 := Lib.hid (fun w' (h : Bel w w') => decode_q Ab nb cb lb p0 p1 ob w' ny ly u0 u1 e0 e1 (HZ.out.bel h) (HB.out.1.bel h).here HB.out.2.1 HB.out.2.2.1 (by have := H3.out; omega) HB.out.2.2.2.2 hob hly hny hu he)
    clear hob hly hny hu he hf0
    obtain ⟨b0, b1, _, _⟩ := id T8.out
    obtain ⟨d0, d1, _, _⟩ := id T9.out
    go_wp2_with fail
    generalize (w2.alloc (.cells #[.int .i64 p0, .int .i64 p1] 35)).alloc (.cells #[.int .i64 f0, .int .i64 f1] 38) = w3 at *
    generalize w2.heap.size + 1 = P9 at *
    generalize w2.heap.size = P8 at *
    with_reducible refine (HD2.out _ HB3.out).mono ?_
    rintro e w4 ⟨Ay, cy, rfl, hcy, hry, hny0, hfy, hb4⟩
    have hbq : Bel w4 ((w4.alloc (.cells #[.int .i64 u0, .int .i64 u1] 35)).alloc (.cells #[.int .i64 e0, .int .i64 e1] 38)) := ((Bel.refl w4).alloc _).alloc _
    have HX5 := Lib.hid (And.intro HX.out.1 (And.intro (HX.out.2.1.bel (hb4.trans hbq)).here HX.out.2.2))
    have HY5 := Lib.hid (And.intro hcy (And.intro (hry.bel hbq).here hny0))
    have HB5 := Lib.hid ((HB3.out.trans hb4).trans hbq)
    have T55 := Lib.hid (T53.out.bel (hb4.trans hbq))
    have T115 := Lib.hid ((Two.new w4 35 u0 u1).bel ((Bel.refl _).alloc (.cells #[.int .i64 e0, .int .i64 e1] 38)))
    have hbs : (w4.alloc (.cells #[.int .i64 u0, .int .i64 u1] 35)).heap.size = w4.heap.size + 1 := by simp
    have hT9 := Two.new (w4.alloc (.cells #[.int .i64 u0, .int .i64 u1] 35)) 38 e0 e1
    rw [hbs] at hT9
    have T125 := Lib.hid hT9
    clear hcy hry hny0 hfy hb4 hbq hbs hT9 HB3 T53 T8 T9 b0 b1 d0 d1 HD2 HX
    go_wp2_with fail
    generalize (w4.alloc (.cells #[.int .i64 u0, .int .i64 u1] 35)).alloc (.cells #[.int .i64 e0, .int .i64 e1] 38) = w5 at *
    generalize w4.heap.size + 1 = P12 at *
    generalize w4.heap.size = P11 at *
    obtain ⟨oc, hoc⟩ : ∃ o, dec (la ++ lb) g0 g1 = o := ⟨_, rfl⟩
    obtain ⟨lz, hlz⟩ : ∃ x, oD oc = x := ⟨_, rfl⟩
    obtain ⟨nz, hnz⟩ : ∃ x, lz.length = x := ⟨_, rfl⟩
    obtain ⟨⟨r0, r1⟩, hr⟩ : ∃ x, oG oc = x := ⟨_, rfl⟩
    obtain ⟨⟨h0, h1⟩, hh⟩ : ∃ x, oF oc = x := ⟨_, rfl⟩
    have HOC := Lib.hid (And.intro hoc (And.intro hlz (And.intro hnz (And.intro hr hh))))
    have hbab : ∀ x ∈ la ++ lb, 0 ≤ x ∧ x < 256 := by
      intro x hx
      rcases List.mem_append.1 hx with h | h
      · exact HA.out.2.2.2.2 x h
      · exact HB.out.2.2.2.2 x h
    have hnab : (la ++ lb).length = na + nb := by rw [List.length_append, HA.out.2.1, HB.out.2.1]
    have HD3 := Lib.hid (fun (w' : World) (A' : Option Addr) (c' : Nat) (h : Bel w w') (hR : Rd w' w'.heap.size .u8 A' (la ++ lb)) (hc : na + nb ≤ c') => decode_q A' (na + nb) c' (la ++ lb) g0 g1 oc w' nz lz r0 r1 h0 h1 (HZ.out.bel h) hR hnab hc (by have := H3.out; omega) hbab hoc hlz hnz hr hh)
    have HNAB := Lib.hid hnab
    clear hoc hlz hnz hr hh hbab hnab
    have hn1 : ([] : List Int).length + na ≤ 1099511627776 := by have := H3.out; simp; omega
    have hn2 : la.length + nb ≤ 1099511627776 := by have := H3.out; have := HA.out.2.1; omega
    generalize hB5 : w.heap.size = B5 at *
    refine Go.Proofs.YtphnahabonfmmaaGreatDoor.R.region_inv (by kernel_rfl) (by kernel_rfl) (fun L a u => ∃ V, a = jF Aa Ab Ax Ay na ca nb cb nx cx ny cy B5 P8 P9 P11 P12 g0 g1 p0 p1 f0 f1 u0 u1 e0 e1 V ∧ ∃ Az cz, JI w5 Aa Ab na ca nb cb la lb g0 g1 nz lz r0 r1 h0 h1 Az cz L V u) ⟨fun _ => undef, rfl, none, 0, ?_⟩ ?_ ?_
    · exact { bel := (Bel.refl w5).drew, v0 := (fun h => by cases h), v1 := (fun h => by cases h), v2 := (fun h => by cases h), v3 := (fun h => by cases h), v4 := (fun h => by cases h), v5 := (fun h => by cases h), v6 := (fun h => by cases h), v7 := (fun h => by cases h), v8 := (fun h => by cases h), v9 := (fun h => by cases h), v10 := (fun h => by cases h), v11 := (fun h => by cases h), v12 := (fun h => by cases h), v13 := (fun h => by cases h), ne := (fun h => by cases h), o2 := (fun h => by cases h), o4 := (fun h => by cases h), o14 := (fun h => by cases h), o15 := (fun h => by cases h), zb := (fun h => by cases h) }
    · intro i hi L a u hJ hL hd
      obtain ⟨V, rfl, Az, cz, hJ⟩ := hJ
      have HJ := Lib.hid hJ
      have HBU : Hid (Bel w u) := Lib.hid (HB5.out.trans hJ.bel)
      have hsu : w5.heap.size ≤ u.heap.size := Below.size hJ.bel
      clear hJ
      have : i = 0 ∨ i = 1 ∨ i = 2 ∨ i = 3 ∨ i = 4 ∨ i = 5 ∨ i = 6 ∨ i = 7 ∨ i = 8 ∨ i = 9 ∨ i = 10 ∨ i = 11 ∨ i = 12 ∨ i = 13 ∨ i = 14 ∨ i = 15 := by
        have : i < 16 := hi
        omega
      rcases this with rfl | rfl | rfl | rfl | rfl | rfl | rfl | rfl | rfl | rfl | rfl | rfl | rfl | rfl | rfl | rfl
      · clear hd hi
        refine Go.Proofs.YtphnahabonfmmaaGreatDoor.R.op_of_list rfl ?_
        unfold jF
        go_wp2
        exact ⟨upd V 0 (.slice (some ⟨u.heap.size, 0, none⟩) 0 0), by simp [upd], Az, cz, js_0 (.slice (some ⟨u.heap.size, 0, none⟩) 0 0) ((U.Own.empty u 5 .u8).less hsu) (fun b hb => HJ.out.sep_new (Nat.le_of_eq (Option.some.inj hb))) (HJ.out.grow ((Bel.refl u).alloc _))⟩
      · clear hd hi
        refine Go.Proofs.YtphnahabonfmmaaGreatDoor.R.op_of_list rfl ?_
        unfold jF
        go_wp2
        exact ⟨upd V 1 (.slice Aa na ca), by simp [upd], Az, cz, js_1 HJ.out⟩
      · have d0 := hd 0 (by decide +kernel)
        have d1 := hd 1 (by decide +kernel)
        clear hd hi
        have v1 := HJ.out.v1 d1
        obtain ⟨ho, hsep⟩ := HJ.out.v0 d0 hL
        refine Go.Proofs.YtphnahabonfmmaaGreatDoor.R.op_of_list rfl ?_
        unfold jF
        refine wpl_append_g (by rfl) (.tmp 44) (.tmp 45) 33 rfl Tryz.underlying33 hi0 hi1 hi2 hi3 rfl (by omega) ho rfl (HA.out.1.bel HBU.out) v1 HA.out.2.1 HA.out.2.2.2.1 hn1 hsu ?_
        intro v2 u' hown hg hv
        rw [List.nil_append] at hown
        exact ⟨upd V 2 v2, by simp [upd, Act.put], Az, cz, js_2 v2 (V 0) hL hsep hg (fun b hb => (own_block ho hb).1) hv hown HJ.out⟩
      · clear hd hi
        refine Go.Proofs.YtphnahabonfmmaaGreatDoor.R.op_of_list rfl ?_
        unfold jF
        go_wp2
        exact ⟨upd V 3 (.slice Ab nb cb), by simp [upd], Az, cz, js_3 HJ.out⟩
      · have d2 := hd 2 (by decide +kernel)
        have d3 := hd 3 (by decide +kernel)
        clear hd hi
        have v3 := HJ.out.v3 d3
        obtain ⟨ho, hsep⟩ := HJ.out.v2 d2 hL
        refine Go.Proofs.YtphnahabonfmmaaGreatDoor.R.op_of_list rfl ?_
        unfold jF
        refine wpl_append_g (by rfl) (.tmp 46) (.tmp 47) 33 rfl Tryz.underlying33 hi0 hi1 hi2 hi3 rfl (by omega) ho rfl (HB.out.1.bel HBU.out) v3 HB.out.2.1 HB.out.2.2.2.1 hn2 hsu ?_
        intro v4 u' hown hg hv
        obtain ⟨A4, c4, rfl, h4c, h4r, _⟩ := own_rdn hown HNAB.out
        exact ⟨upd V 4 (.slice A4 (na + nb) c4), by simp [upd, Act.put], Az, cz, js_4 A4 c4 (V 2) d2 hL hsep hg (fun b hb => (own_block ho hb).1) h4c h4r HJ.out⟩
      · clear hd hi
        obtain ⟨t0, t1, _, _⟩ := T55.out.bel HJ.out.bel
        refine Go.Proofs.YtphnahabonfmmaaGreatDoor.R.op_of_list rfl ?_
        unfold jF
        go_wp2
        exact ⟨upd V 5 (.agg #[.int .i64 g0, .int .i64 g1]), by simp [upd], Az, cz, js_5 HJ.out⟩
      · have d4 := hd 4 (by decide +kernel)
        have d5 := hd 5 (by decide +kernel)
        clear hd hi
        have v5 := HJ.out.v5 d5
        obtain ⟨A4, c4, v4, h4c, h4r⟩ := HJ.out.v4 d4 hL
        have HC := Lib.hid (HD3.out u A4 c4 HBU.out h4r h4c)
        clear h4r h4c
        refine Go.Proofs.YtphnahabonfmmaaGreatDoor.R.op_of_list rfl ?_
        unfold jF
        go_wp2_with fail
        with_reducible refine HC.out.mono ?_
        rintro e u' ⟨A6, c6, rfl, h6c, h6r, h6n, h6f, hb6⟩
        have HS := Lib.hid (js_6 A6 c6 d4 hL hb6 h6r h6n h6c h6f HJ.out)
        clear h6c h6r h6n h6f hb6
        go_wp2
        exact ⟨upd V 6 (.tuple #[.slice A6 nz c6, .agg #[.int .i64 r0, .int .i64 r1], .agg #[.int .i64 h0, .int .i64 h1]]), by simp [upd, v4, v5], A6, c6, HS.out⟩
      · have d6 := hd 6 (by decide +kernel)
        clear hd hi
        have v6 := (HJ.out.v6 d6).1
        have V6 := Lib.hid v6
        clear v6
        refine Go.Proofs.YtphnahabonfmmaaGreatDoor.R.op_of_list rfl ?_
        unfold jF
        go_wp2
        exact ⟨upd V 7 (.tuple #[.slice Az nz cz, .agg #[.int .i64 r0, .int .i64 r1], .agg #[.int .i64 h0, .int .i64 h1]]), by simp [upd, V6.out], Az, cz, js_7 d6 HJ.out⟩
      · have d7 := hd 7 (by decide +kernel)
        clear hd hi
        obtain ⟨d6, v7⟩ := HJ.out.v7 d7
        refine Go.Proofs.YtphnahabonfmmaaGreatDoor.R.op_of_list rfl ?_
        unfold jF
        go_wp2
        exact ⟨upd V 8 (.slice Az nz cz), by simp [upd, v7], Az, cz, js_8 d6 HJ.out⟩
      · have d7 := hd 7 (by decide +kernel)
        clear hd hi
        obtain ⟨d6, v7⟩ := HJ.out.v7 d7
        refine Go.Proofs.YtphnahabonfmmaaGreatDoor.R.op_of_list rfl ?_
        unfold jF
        go_wp2
        exact ⟨upd V 9 (.agg #[.int .i64 r0, .int .i64 r1]), by simp [upd, v7], Az, cz, js_9 HJ.out⟩
      · have d7 := hd 7 (by decide +kernel)
        clear hd hi
        obtain ⟨d6, v7⟩ := HJ.out.v7 d7
        refine Go.Proofs.YtphnahabonfmmaaGreatDoor.R.op_of_list rfl ?_
        unfold jF
        go_wp2
        exact ⟨upd V 10 (.agg #[.int .i64 h0, .int .i64 h1]), by simp [upd, v7], Az, cz, js_10 HJ.out⟩
      · clear hd hi
        have hst : L 14 = false := f_of (fun h => (HJ.out.o14 h).2.1) hL
        refine Go.Proofs.YtphnahabonfmmaaGreatDoor.R.op_of_list rfl ?_
        unfold jF
        go_wp2
        exact ⟨upd V 11 (PtrTo u.heap.size), by simp [upd, PtrTo], Az, cz, js_11 hL hst HJ.out⟩
      · clear hd hi
        have hst : L 15 = false := f_of (fun h => (HJ.out.o14 (HJ.out.o15 h)).2.2) hL
        refine Go.Proofs.YtphnahabonfmmaaGreatDoor.R.op_of_list rfl ?_
        unfold jF
        go_wp2
        exact ⟨upd V 12 (PtrTo u.heap.size), by simp [upd, PtrTo], Az, cz, js_12 hL hst HJ.out⟩
      · have d8 := hd 8 (by decide +kernel)
        clear hd hi
        obtain ⟨d6, v8⟩ := HJ.out.v8 d8
        refine Go.Proofs.YtphnahabonfmmaaGreatDoor.R.op_of_list rfl ?_
        unfold jF
        go_wp2
        exact ⟨upd V 13 (.slice Az nz cz), by simp [upd, v8], Az, cz, js_13 d6 HJ.out⟩
      · have d6 := hd 6 (by decide +kernel)
        have d9 := hd 9 (by decide +kernel)
        have d11 := hd 11 (by decide +kernel)
        have d12 := hd 12 (by decide +kernel)
        clear hd hi
        have v9 := HJ.out.v9 d9
        obtain ⟨p, vp, hp, ht⟩ := HJ.out.v11 d11
        rw [hL] at ht
        have v11 : V 11 = .pointer (some ⟨p, 0, none⟩) := vp
        obtain ⟨t0, t1, t2, t3⟩ := id ht
        have HS := Lib.hid (js_14 p d11 d12 d6 vp hp ht HJ.out)
        clear vp ht
        refine Go.Proofs.YtphnahabonfmmaaGreatDoor.R.op_of_list rfl ?_
        unfold jF
        go_wp2
        exact ⟨upd V 14 undef, by simp [upd, v9, v11], Az, cz, HS.out⟩
      · have d10 := hd 10 (by decide +kernel)
        have d11 := hd 11 (by decide +kernel)
        have d12 := hd 12 (by decide +kernel)
        have d14 := hd 14 (by decide +kernel)
        clear hd hi
        have v10 := HJ.out.v10 d10
        obtain ⟨p, vp, hp, ht⟩ := HJ.out.v12 d12
        rw [hL] at ht
        have v12 : V 12 = .pointer (some ⟨p, 0, none⟩) := vp
        obtain ⟨t0, t1, t2, t3⟩ := id ht
        have HS := Lib.hid (js_15 p d11 d12 d14 vp hp ht HJ.out)
        clear vp ht
        refine Go.Proofs.YtphnahabonfmmaaGreatDoor.R.op_of_list rfl ?_
        unfold jF
        go_wp2
        exact ⟨upd V 15 undef, by simp [upd, v10, v12], Az, cz, HS.out⟩
    · intro L a u hJ hall
      obtain ⟨V, rfl, Az, cz, hJ⟩ := hJ
      have l6 := hall 6 (by decide +kernel)
      have l14 := hall 14 (by decide +kernel)
      have l15 := hall 15 (by decide +kernel)
      obtain ⟨_, hrz, hnz0, hcz, _⟩ := hJ.v6 l6
      have v13 : V 13 = .slice Az nz cz := (hJ.v13 (hall 13 (by decide +kernel))).2
      obtain ⟨p14, v11, _, T14⟩ := hJ.v11 (hall 11 (by decide +kernel))
      obtain ⟨p15, v12, _, T15⟩ := hJ.v12 (hall 12 (by decide +kernel))
      rw [l14] at T14
      rw [l15] at T15
      have w11 : V 11 = .pointer (some ⟨p14, 0, none⟩) := v11
      have w12 : V 12 = .pointer (some ⟨p15, 0, none⟩) := v12
      have HU := Lib.hid hJ.bel
      have HRZ := Lib.hid (And.intro hrz (And.intro hnz0 hcz))
      have T14 := Lib.hid T14
      have T15 := Lib.hid T15
      clear hJ hall l6 l14 l15 hrz hnz0 hcz v11 v12
      unfold jF
      rw [v13, w11, w12]
      clear v13 w11 w12
      have HBU := Lib.hid (HB5.out.trans HU.out)
      have HAN := Lib.hid (answers_any _ (HZ.out.bel HBU.out))
      generalize V 0 = y0 at *
      generalize V 1 = y1 at *
      generalize V 2 = y2 at *
      generalize V 3 = y3 at *
      generalize V 4 = y4 at *
      generalize V 5 = y5 at *
      generalize V 6 = y6 at *
      generalize V 7 = y7 at *
      generalize V 8 = y8 at *
      generalize V 9 = y9 at *
      generalize V 10 = y10 at *
      go_wp2_with fail
      with_reducible refine HAN.out.mono ?_
      rintro e w6 ⟨rfl, hb6⟩
      have hlike := dec_joins (b := lb) HOA.out.1
      obtain ⟨a0, a1, _, _⟩ := T14.out.bel hb6
      obtain ⟨b0, b1, _, _⟩ := T15.out.bel hb6
      obtain ⟨c0, c1, _, _⟩ := T115.out.bel (HU.out.trans hb6)
      obtain ⟨d0, d1, _, _⟩ := T125.out.bel (HU.out.trans hb6)
      have eG : (s0.g0, s0.g1) = (p0, p1) := HOA.out.2.2.2.1
      obtain ⟨eg0, eg1⟩ := Prod.mk.inj eG
      rw [eg0, eg1, HOB.out.1, HOC.out.1] at hlike
      have HX6 := Lib.hid (HX5.out.2.1.bel (HU.out.trans hb6))
      have HY6 := Lib.hid (HY5.out.2.1.bel (HU.out.trans hb6))
      have HZ6 := Lib.hid (HRZ.out.1.bel hb6)
      have HB6 := Lib.hid (HBU.out.trans hb6)
      clear hb6 HAN eG eg0 eg1 T14 T15 T115 T125
      rcases ob with ⟨x1, y1⟩ | s1
      · rcases oc with ⟨x2, y2⟩ | s2
        · obtain ⟨k1, k2⟩ := hlike
          dsimp only at k1 k2
          obtain ⟨rfl, rfl⟩ : x1 = e0 ∧ y1 = e1 := Prod.mk.inj HOB.out.2.2.2.2
          obtain ⟨rfl, rfl⟩ : x2 = h0 ∧ y2 = h1 := Prod.mk.inj HOC.out.2.2.2.2
          have hne := dec_err HOB.out.1
          dsimp only at hne
          have qe : (x1 != 0) = true := by simp; omega
          rw [HA.out.2.1] at k2
          subst k1 k2
          have qx : (x2 != x2) = false := by simp
          have hpos := dec_pos HOB.out.1
          dsimp only at hpos
          have hsum : wrap64 ((na : Int) + y1) = (na : Int) + y1 := by
            have := H3.out
            have := HB.out.2.1
            unfold wrap64
            omega
          clear hpos
          clear hne
          go_wp2
          go_ret
          exact ⟨ret_bool (by simp; omega), HB6.out⟩
        · exact hlike.elim
      · rcases oc with ⟨x2, y2⟩ | s2
        · exact hlike.elim
        · obtain ⟨k0, k1, k2, _, _⟩ := hlike
          obtain ⟨j0, j1⟩ : 0 = e0 ∧ 0 = e1 := Prod.mk.inj HOB.out.2.2.2.2
          obtain ⟨j2, j3⟩ : 0 = h0 ∧ 0 = h1 := Prod.mk.inj HOC.out.2.2.2.2
          obtain ⟨j4, j5⟩ : s1.g0 = u0 ∧ s1.g1 = u1 := Prod.mk.inj HOB.out.2.2.2.1
          obtain ⟨j6, j7⟩ : s2.g0 = r0 ∧ s2.g1 = r1 := Prod.mk.inj HOC.out.2.2.2.1
          have hlz : lz = lx ++ ly := by
            have e1 : s2.done = lz := HOC.out.2.1
            have e2 : s1.done = ly := HOB.out.2.1
            have e3 : s0.done = lx := HOA.out.2.1
            rw [← e1, ← e2, ← e3, k2]
          subst j0 j1 j2 j3
          rw [j4, j6] at k0
          rw [j5, j7] at k1
          subst k0 k1
          have heql : ∀ w, (binOp .eql 35 (.agg #[.int .i64 r0, .int .i64 r1]) (.agg #[.int .i64 r0, .int .i64 r1])).run Tryz.prog w = .ok (.bool true) w := fun w => by simp [go_sem]
          have hlx : lx.length ≤ 300 := by
            have e3 : s0.done = lx := HOA.out.2.1
            have := dec_len HOA.out.1
            rw [e3, HA.out.2.1] at this
            have := H3.out
            omega
          have hly : ly.length ≤ 300 := by
            have e3 : s1.done = ly := HOB.out.2.1
            have := dec_len HOB.out.1
            rw [e3, HB.out.2.1] at this
            have := H3.out
            omega
          have hba := (Bel.refl w6).alloc (.cells #[] 21)
          have HO6 := Lib.hid (U.Own.empty w6 21 .i32)
          have HRx := Lib.hid (HX6.out.bel hba)
          have hk1 : ([] : List Int).length + nx ≤ 1099511627776 := by have := HOA.out.2.2.1; simp; omega
          have hk2 : lx.length + ny ≤ 1099511627776 := by have := HOB.out.2.2.1; omega
          have hs6 : w6.heap.size ≤ (w6.alloc (.cells #[] 21)).heap.size := by simp
          have HLZ := Lib.hid hlz
          have HLL := Lib.hid (And.intro hlx hly)
          clear hlx hly hlz k2 j4 j5 j6 j7
          have HXN := Lib.hid HX5.out.2.2
          have HYN := Lib.hid HY5.out.2.2
          go_wp2_with (first
            | (at_builtin; refine wpl_append_g (by rfl) (.tmp 79) (.tmp 80) 22 rfl Tryz.underlying22 hm0 hm1 hm2 hm3 rfl (by omega) HO6.out rfl HRx.out rfl HOA.out.2.2.1 HXN.out hk1 hs6 ?_; intro v7 w7 hown7 hg7 hv7; have hb67 : Bel w6 w7 := Bel.trans' hba hg7 (fun b hb => (own_block HO6.out hb).1); rw [List.nil_append] at hown7)
            | (at_builtin; refine wpl_append_g (by rfl) (.tmp 81) (.tmp 82) 22 rfl Tryz.underlying22 hm0 hm1 hm2 hm3 rfl (by omega) hown7 rfl (HY6.out.bel hb67) rfl HOB.out.2.2.1 HYN.out hk2 (Below.size hb67) ?_; intro v8 w8 hown8 hg8 hv8; have hb68 : Bel w6 w8 := Bel.trans' hb67 hg8 (fun b hb => (own_block hown7 hb).1); obtain ⟨A8, c8, rfl, h8c, h8r, -⟩ := own_rdn hown8 (n := nx + ny) (by rw [List.length_append, HOA.out.2.2.1, HOB.out.2.2.1]))
            | fail)
          have HRU := Lib.hid (runes_is Az A8 nz (nx + ny) cz c8 lz (lx ++ ly) _ _ true w8 (HZ6.out.bel hb68) h8r HOC.out.2.2.1 (by rw [List.length_append, HOA.out.2.2.1, HOB.out.2.2.1]) (by have e1 := HOC.out.2.2.1; rw [HLZ.out, List.length_append] at e1; have := HLL.out; omega) (by rw [HLZ.out]; simp))
          have HB8 := Lib.hid (HB6.out.trans hb68)
          clear hown7 hg7 hv7 hb67 hown8 hg8 hv8 hb68 h8c h8r
          with_reducible refine HRU.out.mono ?_
          rintro e w9 hp9
          obtain ⟨rfl, hb9⟩ := runes_bel hp9
          go_wp2
          go_ret
          exact ⟨rfl, HB8.out.trans hb9⟩
  · have qf : (f0 != 0) = true := by simpa using hf0
    have HAN := Lib.hid (answers_any _ (HZ.out.bel HB3.out))
    obtain ⟨b0, b1, _, _⟩ := id T9.out
    clear hf0
    go_wp2_with (go_at_call 11; (with_reducible refine HAN.out.mono ?_); rintro e w4 ⟨rfl, hb4⟩)
    go_ret
    exact ⟨rfl, HB3.out.trans hb4⟩
theorem joins_long (Aa Ab : Option Addr) (na ca nb cb : Nat) (g0 g1 : Int) (w : World) (hZ : Dz w) (h : 300 < na ∨ 300 < nb) :
    Calls Tryz.prog 5 #[.slice Aa na ca, .slice Ab nb cb, .agg #[.int .i64 g0, .int .i64 g1]] w (AnsP w) := by
  have hb0 := (Bel.refl w).alloc (.cells #[.int .i64 g0, .int .i64 g1] 35)
  have HAN := Lib.hid (answers_any _ (hZ.bel hb0))
  have HB0 := Lib.hid hb0
  clear hb0 hZ
  by_cases h1 : 300 < na
  · have q0 : (300 : Int) < (na : Int) := by omega
    clear h
    go_enter Tryz.func5, Tryz.ntmps5
    go_wp2_with (go_at_call 11; (with_reducible refine HAN.out.mono ?_); rintro e w1 ⟨rfl, hb1⟩)
    go_ret
    exact ⟨rfl, HB0.out.trans hb1⟩
  · have q0 : ¬ (300 : Int) < (na : Int) := by omega
    have q1 : (300 : Int) < (nb : Int) := by omega
    clear h
    go_enter Tryz.func5, Tryz.ntmps5
    go_wp2_with (go_at_call 11; (with_reducible refine HAN.out.mono ?_); rintro e w1 ⟨rfl, hb1⟩)
    go_ret
    exact ⟨rfl, HB0.out.trans hb1⟩
theorem joins_any (Aa Ab : Option Addr) (na ca nb cb : Nat) (la lb : List Int) (g0 g1 : Int) (w : World) (hZ : Dz w) (ha : Came .u8 w Aa na ca la) (hb : Came .u8 w Ab nb cb lb) :
    Calls Tryz.prog 5 #[.slice Aa na ca, .slice Ab nb cb, .agg #[.int .i64 g0, .int .i64 g1]] w (AnsP w) := by
  by_cases h : 300 < na ∨ 300 < nb
  · exact joins_long Aa Ab na ca nb cb g0 g1 w hZ h
  · obtain ⟨a1, a2, a3, a4, a5⟩ := ha
    obtain ⟨b1, b2, b3, b4, b5⟩ := hb
    exact joins_walk Aa Ab na ca nb cb la lb g0 g1 w hZ a3 a1 a2 a4 (fun x hx => by have := bounds_u8 (a5 x hx); omega) b3 b1 b2 b4 (fun x hx => by have := bounds_u8 (b5 x hx); omega) (by omega) (by omega)
end Go.Proofs.YtphnahabonfmmaaGreatDoor.D
