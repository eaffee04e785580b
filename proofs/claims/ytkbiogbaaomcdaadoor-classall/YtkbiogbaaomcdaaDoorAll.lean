/- What class.All answers, where the table of spans lies in its variable: all marks, rising, in a row of its own. -/
import Derived.Test.YtkbiogbaaomcdaaDoorAns
namespace Go.Proofs.YtkbiogbaaomcdaaDoor.U
open Go.RowKit
set_option linter.unusedVariables false

section
variable {P : Program} {w : World}
/-- 'append', and which block it may have written. -/
theorem run_append_o {t ty e : TypeId} {base : Nat} {i : TypeInfo} {z : Value} {bytes : Nat} (ht : P.underlying t = some (.slice e)) (hi : P.info? e = some i) (hz : i.zero = some z)
    (hsize : i.size = 1) (hby : i.bytes = bytes) (hzs : z.cells.size = 1) (hb8 : bytes ≤ 8)
    {k : IntKind} {v : Value} {xs : List Int} (hown : Own w base e k v xs)
    {B g o : Nat} {m c : Nat} {ys : List Int} (hr : Rd w B k (some ⟨g, o, none⟩) ys) (hm : ys.length = m)
    (hn : xs.length + m ≤ 100000) (hbase : base ≤ w.heap.size) :
    ∃ v' w', (Builtin.append_ #[t, t] ty #[v, .slice (some ⟨g, o, none⟩) m c]).run P w = .ok v' w' ∧ Own w' base e k v' (xs ++ ys) ∧ Below base w w' ∧ w.grownBy w' v.ownBlock ∧ (v'.ownBlock = v.ownBlock ∨ v'.ownBlock = some w.heap.size) := by
  have h63 : xs.length + m ≤ maxLen := by simp only [maxLen]; omega
  have hbytes : (xs.length + m) * bytes ≤ 140737488355328 := Nat.le_trans (Nat.mul_le_mul hn hb8) (by decide)
  have hnews : ∀ j u, (ys.map (Value.int k))[j]? = some u → w.cell? ((⟨g, o, none⟩ : Addr).add j) = some u := by
    intro j u hu
    rw [List.getElem?_map] at hu
    obtain ⟨y, hy, rfl⟩ := Option.map_eq_some_iff.1 hu
    rw [addr_add]; exact hr.at hy
  obtain ⟨v', w', h1, h2, h3, _, h5⟩ := run_append_own_at (P := P) w base t ty e i z 1 bytes ht hi hz hsize hby hzs (by omega) v _ _ hown ⟨g, o, none⟩ m c (ys.map (Value.int k)) (by simp [hm]) hnews (one_cells k ys) h63 hbytes hbase
  exact ⟨v', w', h1, by unfold Own; simpa [hm] using h2, (Below.refl _ _).grown h3 hbase fun g hg => (World.ownsRow.lt hown g hg).1, h3, h5⟩
theorem wpl_append_o {ops : Array Oper} {rest : List Oper} {o : Oper} {a : Act} {Q : Exit → Act → World → Prop} (hw : Region.wanted o (yielded ops a.tmps) = true) (s x : Operand) (t : TypeId)
    (ho : o.op = .call { callee := .builtin .append, args := #[s, x], argTypes := #[t, t] })
    {e : TypeId} {base : Nat} {i : TypeInfo} {z : Value} {bytes : Nat} (ht : P.underlying t = some (.slice e)) (hi : P.info? e = some i) (hz : i.zero = some z)
    (hsize : i.size = 1) (hby : i.bytes = bytes) (hzs : z.cells.size = 1) (hb8 : bytes ≤ 8)
    {k : IntKind} {v : Value} {xs : List Int} (hown : Own w base e k v xs) (hs : a.eval s = v)
    {B g off : Nat} {m c : Nat} {ys : List Int} (hr : Rd w B k (some ⟨g, off, none⟩) ys) (hx : a.eval x = .slice (some ⟨g, off, none⟩) m c) (hm : ys.length = m)
    (hn : xs.length + m ≤ 100000) (hbase : base ≤ w.heap.size)
    (h : ∀ v' w', Own w' base e k v' (xs ++ ys) → Below base w w' → w.grownBy w' v.ownBlock → (v'.ownBlock = v.ownBlock ∨ v'.ownBlock = some w.heap.size) → wpList P ops Q rest (a.put o.dst v') w') : wpList P ops Q (o :: rest) a w :=
  BigFrame.wpList_want hw fun _ hK => by
    obtain ⟨v', w', hrun, h2, h3, h4, h5⟩ := run_append_o (P := P) (ty := o.type) (c := c) ht hi hz hsize hby hzs hb8 hown hr hm hn hbase
    unfold Oper.wp execOp
    simp only [ho, resolve, invoke, builtin, Sem.run_bind, Sem.run_pure, Result.andThen_ok, List.map_toArray, List.map_cons, List.map_nil, hs, hx, hrun]
    exact hK _ _ (h v' w' h2 h3 h4 h5)
end
theorem info21 : (Tryd.prog.info? 21).map (fun i => (i.zero, i.size, i.bytes)) = some (some (.int .i32 0), 1, 4) := by kernel_rfl

theorem index_row {k : Nat} {s : Row} (hs : tab[k]? = some s) (w : World) : (Instr.index 31 (.agg tabC.toArray) (.int .i64 k)).run Tryd.prog w = .ok (.agg #[.int .i32 s.1, .int .i32 s.2.1, .int .u8 s.2.2.1, .int .u8 s.2.2.2]) w := by
  have hk : k < 40 := by rw [← tab_len]; exact (List.getElem?_eq_some_iff.1 hs).1
  have hrow : List.take 4 (List.drop (k * 4) tabC) = row4 s := by
    apply List.ext_getElem?
    intro j
    by_cases hj : j < 4
    · rw [List.getElem?_take, if_pos hj, List.getElem?_drop]
      exact flat4 row4 (fun _ => rfl) tab k s hs j hj
    · rw [List.getElem?_eq_none (by simp; omega), List.getElem?_eq_none (by simp [row4]; omega)]
  simp [Instr.index, run_underlying Tryd.underlying31, asIntOf, hk, hrow, row4, go_sem]
theorem info31 : (Tryd.prog.info? 31).map (·.size) = some tabC.length := by kernel_rfl

def AllPost (w : World) (l : List Int) (e : Ending) (w' : World) : Prop := ∃ v, e = .returned v ∧ Own w' w.heap.size 21 .i32 v l ∧ Bel w w'
def AllRel (w : World) (v i : Value) (w' : World) : Prop := ∃ k : Nat, i = .int .i64 k ∧ k ≤ 40 ∧ Own w' w.heap.size 21 .i32 v (runs (tab.take k)) ∧ Bel w w'

/-- Within a row: its first m marks are there; the row's own copy lies in block g, which is not the list's. -/
def InRel (w : World) (g : Nat) (a l : Int) (n : Nat) (xs : List Int) (v r : Value) (w' : World) : Prop :=
  ∃ m : Nat, r = .int .i32 (a + m) ∧ m ≤ n ∧ Own w' w.heap.size 21 .i32 v (xs ++ run a m) ∧ Bel w w' ∧ v.ownBlock ≠ some g ∧ w'.cell? ⟨g, 1, none⟩ = some (.int .i32 l)

set_option maxRecDepth 100000 in
set_option maxHeartbeats 4000000 in
theorem all_any (w : World) (h : Sp w) : Calls Tryd.prog 11 #[] w (AllPost w marks) := by
  obtain ⟨i0, hi0, hz0, hz1, hz2⟩ := info_parts info21
  have hidx : ∀ (k : Nat) (s : Row), tab[k]? = some s → ∀ w : World, (Instr.index 31 (.agg tabC.toArray) (.int .i64 k)).run Tryd.prog w = .ok (.agg #[.int .i32 s.1, .int .i32 s.2.1, .int .u8 s.2.2.1, .int .u8 s.2.2.2]) w := fun k s hs w => index_row hs w
  have HX := Lib.hid hidx
  have HH := Lib.hid h
  clear hidx h
  go_enter Tryd.func11, Tryd.ntmps11
  go_wp2_with ((with_reducible (show wpList _ _ _ (Oper.mk _ (Op.load 31 (Operand.global 0)) _ _ _ _ :: _) _ _)); refine wpList_load_mid rfl 31 (.global 0) rfl 0 0 rfl tabC _ HH.out Tryd.underlying31 rfl info31 ?_)
  clear HH
  go_loopw [1, 6] (fun v i wr => AllRel w v i wr) (fun _ i _ => 40 - (intOf i).toNat)
  case atStart => exact ⟨0, rfl, by omega, Own.nil _ _ _ _, Bel.refl _⟩
  case round =>
    obtain ⟨k, rfl, hk, hown, hb⟩ := hrel
    by_cases hlt : k < 40
    · obtain ⟨s, hs⟩ := tab_at hlt
      have hix := HX.out k s hs
      have q1 : (k : Int) < 40 := by omega
      obtain ⟨b0, b1, b2, _⟩ := tab_row hs
      have HN := Lib.hid (runs_next hs)
      have HL : Hid (∀ m, m ≤ len s → (runs (tab.take k) ++ run s.1 m).length ≤ 1000) := Lib.hid fun m hm => runs_le k hs hm
      have hlen : (len s : Int) = s.2.1 - s.1 + 1 := by unfold len; omega
      obtain ⟨s0, s1, s2, s3⟩ := s
      dsimp only at b0 b1 b2 hlen hix HN HL
      obtain ⟨n, hn⟩ : ∃ n, len (s0, s1, s2, s3) = n := ⟨_, rfl⟩
      obtain ⟨xs, hxs⟩ : ∃ xs, runs (tab.take k) = xs := ⟨_, rfl⟩
      rw [hn] at hlen HN HL
      rw [hxs] at hown HN HL
      have hne : u1.ownBlock ≠ some wr.heap.size := fun e => by
        have := (World.ownsRow.lt hown _ e).2
        omega
      have hcell : (wr.alloc (.cells #[.int .i32 s0, .int .i32 s1, .int .u8 s2, .int .u8 s3] 30)).cell? ⟨wr.heap.size, 1, none⟩ = some (.int .i32 s1) := by
        rw [World.cell?_alloc_at _ _ _ _ (by simp)]; rfl
      have hown1 := hown.keep ((Bel.refl wr).alloc (.cells #[.int .i32 s0, .int .i32 s1, .int .u8 s2, .int .u8 s3] 30))
      have hb1 := hb.alloc (.cells #[.int .i32 s0, .int .i32 s1, .int .u8 s2, .int .u8 s3] 30)
      have H0 := Lib.hid (show InRel w wr.heap.size s0 s1 n xs u1 (.int .i32 s0) _ from ⟨0, by simp, by omega, by simpa [run] using hown1, hb1, hne, hcell⟩)
      clear hown hown1 hb hb1 hne hcell hs hn hxs HX
      go_wp2
      generalize wr.alloc (.cells #[.int .i32 s0, .int .i32 s1, .int .u8 s2, .int .u8 s3] 30) = W1 at H0 ⊢
      generalize wr.heap.size = G at H0 ⊢
      go_loopw [1, 4] (fun v r wi => InRel w G s0 s1 n xs v r wi) (fun _ r _ => (s1 + 1 - intOf r).toNat)
      case atStart => exact H0.out
      case round =>
        obtain ⟨m, rfl, hm, hown, hb, hne, hcell⟩ := hrel
        clear H0
        have hGl : G < wr.heap.size := cell_block hcell
        by_cases hin : m < n
        · have q2 : s0 + (m : Int) ≤ s1 := by omega
          obtain ⟨y, hy⟩ : ∃ y, s0 + (m : Int) = y := ⟨_, rfl⟩
          have hsz := Below.size hb
          have HW := Lib.hid (hown.keep ((Bel.refl wr).alloc (.cells #[.int .i32 y] 21)))
          have hl1 := HL.out m hm
          rw [hy] at q2 ⊢
          have y0 : 0 ≤ y := by omega
          have y1 : y ≤ 65059 := by omega
          have HY := Lib.hid hy
          clear hown hy
          go_wp2_with (at_builtin; refine wpl_append_o (by rfl) (.tmp 17) (.tmp 19) 25 rfl Tryd.underlying25 hi0 hz0 hz1 hz2 rfl (by omega) HW.out rfl (rd_lit (l := [y]) rfl) rfl rfl (by omega) (by simp; omega) ?_; intro v2 w2 hown2 hb2 hg2 hv2)
          have hbw2 : Bel w w2 := Below.trans (hb.alloc _) hb2
          have hc1 : (wr.alloc (.cells #[.int .i32 y] 21)).cell? ⟨G, 1, none⟩ = some (.int .i32 s1) := (Below.cell ((Bel.refl wr).alloc _) (p := ⟨G, 1, none⟩) hGl).trans hcell
          have hc2 : w2.cell? ⟨G, 1, none⟩ = some (.int .i32 s1) := (World.grownBy.cell_far hg2 ⟨G, 1, none⟩ (cell_block hc1) (fun e => hne e.symm)).trans hc1
          have hne2 : v2.ownBlock ≠ some G := by
            rcases hv2 with e | e
            · rw [e]; exact hne
            · rw [e]; intro h; have := Option.some.inj h; simp at this; omega
          have hown3 : Own w2 w.heap.size 21 .i32 v2 (xs ++ run s0 (m + 1)) := by
            rw [run_snoc, HY.out, ← List.append_assoc]; exact hown2
          clear hc1 hown2 hb2 hg2 hv2 hne hcell hb HW
          try go_wp2
          go_roundw
          case rel => exact ⟨m + 1, by have := HY.out; first | go_num | (congr 1; omega), by omega, hown3, hbw2, hne2, hc2⟩
          case measure => have := HY.out; simp [intOf]; omega
        · have q2 : s1 < s0 + (m : Int) := by omega
          obtain rfl : m = n := by omega
          rw [← HN.out] at hown
          obtain ⟨y, hy⟩ : ∃ y, s0 + (m : Int) = y := ⟨_, rfl⟩
          rw [hy] at q2 ⊢
          clear hy hne HN HL hlen
          go_wp2
          go_roundw
          case rel => exact ⟨k + 1, by go_num, by omega, hown, hb⟩
          case measure => simp [intOf]; omega
    · obtain rfl : k = 40 := by omega
      rw [List.take_of_length_le (by rw [tab_len]; omega)] at hown
      clear HX
      go_wp2
      go_ret
      exact ⟨_, rfl, hown, hb⟩
end Go.Proofs.YtkbiogbaaomcdaaDoor.U
