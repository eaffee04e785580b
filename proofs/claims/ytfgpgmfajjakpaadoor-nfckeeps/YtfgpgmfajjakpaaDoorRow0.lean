/- A row that is sorted in place: what it holds, what an exchange makes of it, and that nothing else is changed. What compareClasses answers. -/
import Derived.Test.YtfgpgmfajjakpaaDoorOf
import Derived.Shelf.SlSortCmp.QuietGrown
import Derived.BigRegion
namespace Go.Proofs.YtfgpgmfajjakpaaDoor.U
open Go.RowKit
set_option linter.unusedVariables false

def cmpI (x y : Int) : Int := if x < y then -1 else if y < x then 1 else 0
theorem cmpI_neg {x y : Int} : cmpI x y < 0 ↔ x < y := by
  unfold cmpI
  by_cases h1 : x < y
  · rw [if_pos h1]; omega
  · rw [if_neg h1]
    by_cases h2 : y < x
    · rw [if_pos h2]; omega
    · rw [if_neg h2]; omega
theorem inan_is (x : Int) (w : World) : Calls Tryd.prog 54 #[.int .i64 x] w fun e w' => e = .returned (.bool false) ∧ w = w' := by
  go_enter Tryd.func54, Tryd.ntmps54
  go_wp2
  go_ret
  exact ⟨by first | rfl | (refine ret_bool ?_; simp), rfl⟩
theorem icompare_is (x y c : Int) (w : World) (hc : cmpI x y = c) : Calls Tryd.prog 34 #[.int .i64 x, .int .i64 y] w fun e w' => e = .returned (.int .i64 c) ∧ w = w' := by
  unfold cmpI at hc
  rcases Int.lt_trichotomy x y with h | rfl | h
  · rw [if_pos h] at hc
    subst hc
    go_enter Tryd.func34, Tryd.ntmps34
    go_wp2_with (go_at_call 54; refine (inan_is _ _).mono ?_; rintro e w' ⟨rfl, rfl⟩)
    go_ret
    exact ⟨rfl, rfl⟩
  · rw [if_neg (by omega), if_neg (by omega)] at hc
    subst hc
    go_enter Tryd.func34, Tryd.ntmps34
    go_wp2_with (go_at_call 54; refine (inan_is _ _).mono ?_; rintro e w' ⟨rfl, rfl⟩)
    go_ret
    exact ⟨rfl, rfl⟩
  · rw [if_neg (by omega), if_pos h] at hc
    subst hc
    go_enter Tryd.func34, Tryd.ntmps34
    go_wp2_with (go_at_call 54; refine (inan_is _ _).mono ?_; rintro e w' ⟨rfl, rfl⟩)
    go_ret
    exact ⟨rfl, rfl⟩
theorem comp_is (x y c : Int) (w : World) (h : Sp w) (hc : cmpI (cls x) (cls y) = c) : Calls Tryd.prog 27 #[.int .i32 x, .int .i32 y] w fun e w' => e = .returned (.int .i64 c) ∧ Gr w w' := by
  have H1 := Lib.hid (of_is x (cls x) w h rfl)
  have H2 := Lib.hid (fun w' (hg : Gr w w') => of_is y (cls y) w' (h.bel hg) rfl)
  generalize cls x = a at H1 hc
  generalize cls y = b at H2 hc
  have H3 := Lib.hid (fun w => icompare_is a b c w hc)
  clear h hc
  go_enter Tryd.func27, Tryd.ntmps27
  go_wp2_with fail
  with_reducible refine H1.out.mono ?_
  rintro e w1 ⟨rfl, h1⟩
  go_wp2_with fail
  with_reducible refine (H2.out _ h1).mono ?_
  rintro e w2 ⟨rfl, h2⟩
  go_wp2_with fail
  with_reducible refine (H3.out _).mono ?_
  rintro e w3 ⟨rfl, rfl⟩
  go_wp2
  go_ret
  exact ⟨rfl, h1.trans h2⟩
theorem enters27 : ∀ (args : Array Value) (w : World), (callFunc 27 args).run Tryd.prog w = .ok (.enter 27 args) w := enters_of Tryd.func27 (by kernel_rfl) rfl
theorem mixed : Tryd.prog.follows .mixedOrders = true := by kernel_rfl

/-- The row holds these, and may be written. -/
def Lst (w : World) (g off : Nat) (l : List Int) : Prop := ∀ i x, l[i]? = some x → w.cell? ⟨g, off + i, none⟩ = some (.int .i32 x) ∧ w.frozen? ⟨g, off + i, none⟩ = false
/-- The row's block is the block it was, but for the row's n cells. -/
def Kp (w0 w : World) (g off n : Nat) : Prop := ∀ c e m, w0.heap[g]? = some (.cells c e m) → ∃ c', w.heap[g]? = some (.cells c' e m) ∧ c'.size = c.size ∧ ∀ k, (k < off ∨ off + n ≤ k) → c'[k]? = c[k]?
theorem Kp.refl (w : World) (g off n : Nat) : Kp w w g off n := fun c e m h => ⟨c, h, rfl, fun _ _ => rfl⟩
theorem Kp.by {w0 w w' : World} {g off n : Nat} (h : Kp w0 w g off n) (hg : g < w.heap.size) (hb : Bel w w') : Kp w0 w' g off n := fun c e m hc => by
  obtain ⟨c', h1, h2⟩ := h c e m hc
  exact ⟨c', by rw [hb.block g hg]; exact h1, h2⟩
theorem Kp.set {w0 w : World} {g off n i : Nat} (h : Kp w0 w g off n) (hi : i < n) (v : Value) : Kp w0 (w.setCell ⟨g, off + i, none⟩ v) g off n := fun c e m hc => by
  obtain ⟨c', h1, h2, h3⟩ := h c e m hc
  refine ⟨c'.setIfInBounds (off + i) v, by simp [World.setCell, Array.getElem?_modify, h1], by simpa using h2, fun k hk => ?_⟩
  rw [Array.getElem?_setIfInBounds, if_neg (by omega)]
  exact h3 k hk
/-- From w0 on nothing below base was changed; the row, in a block of its own, holds l; the table of spans lies. -/
def In (base : Nat) (w0 : World) (g off : Nat) (l : List Int) (w : World) : Prop := Below base w0 w ∧ Lst w g off l ∧ Sp w ∧ base ≤ g ∧ 0 < base ∧ base ≤ w0.heap.size ∧ g < w.heap.size ∧ Kp w0 w g off l.length

theorem Lst.bel {w w' : World} {g off : Nat} {l : List Int} (h : Lst w g off l) (hb : Bel w w') : Lst w' g off l := fun i x hx => by
  obtain ⟨h1, h2⟩ := h i x hx
  have hb' := cell_block h1
  exact ⟨(Below.cell hb (p := ⟨g, off + i, none⟩) hb').trans h1, (Below.frozen hb (p := ⟨g, off + i, none⟩) hb').trans h2⟩
theorem In.by {base : Nat} {w0 w w' : World} {g off : Nat} {l : List Int} (h : In base w0 g off l w) (hb : Bel w w') : In base w0 g off l w' := by
  obtain ⟨h1, h2, h3, h4, h5, h6, h7, h8⟩ := h
  exact ⟨h1.trans (Below.mono hb (Nat.le_trans h6 h1.size)), h2.bel hb, h3.by hb, h4, h5, h6, Nat.lt_of_lt_of_le h7 hb.size, h8.by h7 hb⟩
theorem In.gr {base : Nat} {w0 w w' : World} {g off : Nat} {l : List Int} (h : In base w0 g off l w) (hb : Gr w w') : In base w0 g off l w' := h.by hb.bel
theorem In.cell {base : Nat} {w0 w : World} {g off : Nat} {l : List Int} (h : In base w0 g off l w) {i : Nat} {x : Int} (hx : l[i]? = some x) : w.cell? ⟨g, off + i, none⟩ = some (.int .i32 x) := (h.2.1 i x hx).1
theorem In.free {base : Nat} {w0 w : World} {g off : Nat} {l : List Int} (h : In base w0 g off l w) {i : Nat} {x : Int} (hx : l[i]? = some x) : w.frozen? ⟨g, off + i, none⟩ = false := (h.2.1 i x hx).2
theorem In.cells {base : Nat} {w0 w : World} {g off : Nat} {l : List Int} (h : In base w0 g off l w) {i : Nat} {x : Int} (hx : l[i]? = some x) (n : Nat) (os : Array Obj) : (Sort.grow (w.drewN n) os).cell? ⟨g, off + i, none⟩ = some (.int .i32 x) :=
  (h.gr ⟨n, os, rfl⟩).cell hx
theorem In.comp {base : Nat} {w0 w : World} {g off : Nat} {l : List Int} (h : In base w0 g off l w) (x y c : Int) (hc : cmpI (cls x) (cls y) = c) (n : Nat) (os : Array Obj) :
    Calls Tryd.prog 27 #[.int .i32 x, .int .i32 y] (Sort.grow (w.drewN n) os) fun e w' => e = .returned (.int .i64 c) ∧ ∃ q os', w' = Sort.grow ((Sort.grow (w.drewN n) os).drewN q) os' :=
  comp_is x y c _ (h.2.2.1.bel ⟨n, os, rfl⟩) hc

/-- An exchange. -/
theorem In.swap {base : Nat} {w0 w : World} {g off : Nat} {l l' : List Int} {i j : Nat} {x y : Int} (h : In base w0 g off l w) (hx : l[i]? = some x) (hy : l[j]? = some y) (hij : i ≠ j)
    (hl : ∀ k, l'[k]? = if k = i then some y else if k = j then some x else l[k]?) :
    In base w0 g off l' ((w.setCell ⟨g, off + i, none⟩ (.int .i32 y)).setCell ⟨g, off + j, none⟩ (.int .i32 x)).drew := by
  have ci := h.cell hx
  have cj := h.cell hy
  have fi := h.free hx
  have fj := h.free hy
  obtain ⟨h1, h2, h3, h4, h5, h6, h7, h8⟩ := h
  have il : i < l.length := (List.getElem?_eq_some_iff.1 hx).1
  have jl : j < l.length := (List.getElem?_eq_some_iff.1 hy).1
  have hll : l'.length = l.length := by
    have e1 : l'[l.length]? = none := by rw [hl, if_neg (by omega), if_neg (by omega)]; simp
    have e2 : ∀ k, k < l.length → l'[k]? ≠ none := fun k hk => by
      rw [hl]
      split
      · simp
      · split
        · simp
        · simp [hk]
    have a1 : l'.length ≤ l.length := by simpa using e1
    rcases Nat.lt_or_ge l'.length l.length with h | h
    · exact absurd (by simp) (e2 l'.length h)
    · omega
  have hB : Below base w ((w.setCell ⟨g, off + i, none⟩ (.int .i32 y)).setCell ⟨g, off + j, none⟩ (.int .i32 x)).drew := (((Below.refl base w).setCell (by exact h4) _).setCell (by exact h4) _).drew
  refine ⟨h1.trans hB, fun k z hz => ?_, h3.below hB h5, h4, h5, h6, Nat.lt_of_lt_of_le h7 hB.size, by rw [hll]; exact (h8.set il _).set jl _⟩
  have hne : (⟨g, off + i, none⟩ : Addr) ≠ ⟨g, off + j, none⟩ := fun e => by simp only [Addr.mk.injEq] at e; omega
  rw [hl] at hz
  constructor
  · show ((w.setCell ⟨g, off + i, none⟩ (.int .i32 y)).setCell ⟨g, off + j, none⟩ (.int .i32 x)).cell? ⟨g, off + k, none⟩ = _
    by_cases hkj : k = j
    · subst hkj
      rw [if_neg (Ne.symm hij), if_pos rfl] at hz
      obtain rfl := Option.some.inj hz
      exact World.cell?_setCell_same _ _ _ ((World.cell?_setCell_other _ _ _ _ (by exact hne)).trans cj)
    · rw [World.cell?_setCell_other _ _ _ _ (by intro e; simp only [Addr.mk.injEq] at e; omega)]
      by_cases hki : k = i
      · subst hki
        rw [if_pos rfl] at hz
        obtain rfl := Option.some.inj hz
        exact World.cell?_setCell_same _ _ _ ci
      · rw [if_neg hki, if_neg hkj] at hz
        rw [World.cell?_setCell_other _ _ _ _ (by intro e; simp only [Addr.mk.injEq] at e; omega)]
        exact (h2 k z hz).1
  · show ((w.setCell ⟨g, off + i, none⟩ (.int .i32 y)).setCell ⟨g, off + j, none⟩ (.int .i32 x)).frozen? ⟨g, off + k, none⟩ = _
    rw [World.frozen?_setCell, World.frozen?_setCell]
    by_cases hki : k = i
    · subst hki; exact fi
    · by_cases hkj : k = j
      · subst hkj; exact fj
      · rw [if_neg hki, if_neg hkj] at hz
        exact (h2 k z hz).2
/-- Behind the first store the second place still holds what it held. -/
theorem In.c2 {base : Nat} {w0 w : World} {g off : Nat} {l : List Int} {i j : Nat} {y : Int} (h : In base w0 g off l w) (hy : l[j]? = some y) (hij : i ≠ j) (v : Value) :
    (w.setCell ⟨g, off + i, none⟩ v).cell? ⟨g, off + j, none⟩ = some (.int .i32 y) :=
  (World.cell?_setCell_other _ _ _ _ (by intro e; simp only [Addr.mk.injEq] at e; omega)).trans (h.cell hy)

/-! A row of the call's own, and a run of a row. -/
theorem cells_of {w : World} {g k : Nat} {u : Value} (h : w.cell? ⟨g, k, none⟩ = some u) : ∃ c e m, w.heap[g]? = some (.cells c e m) ∧ c[k]? = some u := Sort.cells_of_cell? h
theorem cell_of {w : World} {g k : Nat} {c : Array Value} {e : TypeId} {m : Nat × Nat} (h : w.heap[g]? = some (.cells c e m)) : w.cell? ⟨g, k, none⟩ = c[k]? := by simp [World.cell?, h]
theorem frozen_of {w : World} {g k : Nat} {c : Array Value} {e : TypeId} {m : Nat × Nat} (h : w.heap[g]? = some (.cells c e m)) : w.frozen? ⟨g, k, none⟩ = (decide (m.1 ≤ k) && decide (k < m.2)) := by simp [World.frozen?, h]
theorem In.start {base : Nat} {w0 : World} {v : Value} {l : List Int} (h : Own w0 base 21 .i32 v l) (hl : l ≠ []) (hSp : Sp w0) (hb0 : 0 < base) (hbs : base ≤ w0.heap.size) :
    ∃ g cap, v = .slice (some ⟨g, 0, none⟩) l.length cap ∧ l.length ≤ cap ∧ In base w0 g 0 l w0 := by
  rcases h.2 with ⟨_, h0⟩ | ⟨g, cap, cur, rfl, hb, hg, hc, _, _, ht⟩
  · exact absurd (List.eq_nil_of_length_eq_zero h0) hl
  · refine ⟨g, cap, rfl, hc, Below.refl _ _, fun i x hx => ?_, hSp, hb, hb0, hbs, (Array.getElem?_eq_some_iff.1 hg).1, Kp.refl _ _ _ _⟩
    rw [cell_of hg, frozen_of hg]
    refine ⟨?_, by simp⟩
    have h1 : (cur.toList.take (l.length * 1))[i]? = some (.int .i32 x) := by rw [ht]; simp [hx]
    rw [List.getElem?_take, if_pos (by have := (List.getElem?_eq_some_iff.1 hx).1; omega)] at h1
    rw [Nat.zero_add, ← Array.getElem?_toList]
    exact h1
theorem In.own {base g n cap : Nat} {w0 w : World} {l l' : List Int} (h0 : Own w0 base 21 .i32 (.slice (some ⟨g, 0, none⟩) n cap) l) (h : In base w0 g 0 l' w) (hl : l'.length = l.length) : Own w base 21 .i32 (.slice (some ⟨g, 0, none⟩) n cap) l' := by
  obtain ⟨_, h2, _, _, _, _, _, h8⟩ := h
  rcases h0.2 with ⟨h1, _⟩ | ⟨g', cap', cur, he, hb, hg, hc, hm, hs, ht⟩
  · cases h1
  · simp only [Value.slice.injEq, Option.some.injEq, Addr.mk.injEq, and_true] at he
    obtain ⟨⟨rfl, _⟩, rfl, rfl⟩ := he
    obtain ⟨c', k1, k2, k3⟩ := h8 _ _ _ hg
    refine ⟨by simp, .inr ⟨g, cap, c', by rw [hl], hb, k1, by rw [hl]; exact hc, hm, by rw [k2]; exact hs, ?_⟩⟩
    apply List.ext_getElem?
    intro i
    rw [List.getElem?_take, List.getElem?_map]
    by_cases hi : i < l'.length
    · rw [if_pos (by omega)]
      have := (h2 i l'[i] (by simp)).1
      rw [cell_of k1, Nat.zero_add] at this
      rw [Array.getElem?_toList, this]
      simp [hi]
    · rw [if_neg (by omega)]
      simp at hi
      simp [hi]
theorem In.sub {base g : Nat} {w0 w : World} {A s B : List Int} {a : Nat} (h : In base w0 g 0 (A ++ (s ++ B)) w) (ha : A.length = a) : In base w g a s w := by
  obtain ⟨h1, h2, h3, h4, h5, h6, h7, h8⟩ := h
  refine ⟨Below.refl _ _, fun i x hx => ?_, h3, h4, h5, Nat.le_trans h6 h1.size, h7, Kp.refl _ _ _ _⟩
  have := h2 (a + i) x (by
    have hi := (List.getElem?_eq_some_iff.1 hx).1
    rw [List.getElem?_append_right (by omega), ha, show a + i - a = i by omega, List.getElem?_append_left hi]
    exact hx)
  rwa [Nat.zero_add] at this
theorem In.sup {base g : Nat} {w0 w w' : World} {A s s' B : List Int} {a : Nat} (h : In base w0 g 0 (A ++ (s ++ B)) w) (ha : A.length = a) (h' : In base w g a s' w') (hs : s'.length = s.length) : In base w0 g 0 (A ++ (s' ++ B)) w' := by
  obtain ⟨h1, h2, h3, h4, h5, h6, h7, h8⟩ := h
  obtain ⟨k1, k2, k3, k4, k5, k6, k7, k8⟩ := h'
  refine ⟨h1.trans k1, fun i x hx => ?_, k3, h4, h5, h6, k7, fun c e m hc => ?_⟩
  · have il := (List.getElem?_eq_some_iff.1 hx).1
    simp only [List.length_append] at il
    by_cases i1 : a ≤ i ∧ i < a + s'.length
    · have := k2 (i - a) x (by
        rw [List.getElem?_append_right (by omega), ha, List.getElem?_append_left (by omega)] at hx
        exact hx)
      rw [show a + (i - a) = i by omega] at this
      rwa [Nat.zero_add]
    · have hx' : (A ++ (s ++ B))[i]? = some x := by
        by_cases i2 : i < A.length
        · rw [List.getElem?_append_left i2] at hx ⊢; exact hx
        · rw [List.getElem?_append_right (by omega), List.getElem?_append_right (by omega)] at hx ⊢
          rw [hs] at hx; exact hx
      obtain ⟨g1, g2⟩ := h2 i x hx'
      rw [Nat.zero_add] at g1 g2 ⊢
      obtain ⟨c, e, m, hc, hci⟩ := cells_of g1
      obtain ⟨c', p1, p2, p3⟩ := k8 c e m hc
      rw [cell_of p1, frozen_of p1, p3 i (by omega), hci]
      rw [frozen_of hc] at g2
      exact ⟨rfl, g2⟩
  · obtain ⟨c1, p1, p2, p3⟩ := h8 c e m hc
    obtain ⟨c2, r1, r2, r3⟩ := k8 c1 e m p1
    refine ⟨c2, r1, by omega, fun k hk => ?_⟩
    simp only [List.length_append] at hk p3
    rw [r3 k (by omega), p3 k (by omega)]

/-! Where things stand in a list. -/
theorem at_mid (A : List Int) (u : Int) (B : List Int) {i : Nat} (hi : A.length = i) : (A ++ u :: B)[i]? = some u := by
  subst hi; simp
theorem swap_mid (A : List Int) (u v : Int) (M B : List Int) {i j : Nat} (hi : A.length = i) (hj : i + 1 + M.length = j) (k : Nat) :
    (A ++ v :: (M ++ u :: B))[k]? = if k = i then some v else if k = j then some u else (A ++ u :: (M ++ v :: B))[k]? := by
  subst hi hj
  by_cases h1 : k < A.length
  · rw [if_neg (by omega), if_neg (by omega), List.getElem?_append_left h1, List.getElem?_append_left h1]
  · rw [List.getElem?_append_right (by omega), List.getElem?_append_right (by omega)]
    obtain ⟨m, rfl⟩ : ∃ m, k = A.length + m := ⟨k - A.length, by omega⟩
    rw [show A.length + m - A.length = m by omega]
    cases m with
    | zero => simp
    | succ m =>
      rw [if_neg (by omega), List.getElem?_cons_succ, List.getElem?_cons_succ]
      by_cases h2 : m < M.length
      · rw [if_neg (by omega), List.getElem?_append_left h2, List.getElem?_append_left h2]
      · rw [List.getElem?_append_right (by omega), List.getElem?_append_right (by omega)]
        obtain ⟨t, rfl⟩ : ∃ t, m = M.length + t := ⟨m - M.length, by omega⟩
        rw [show M.length + t - M.length = t by omega]
        cases t with
        | zero => simp; omega
        | succ t => rw [if_neg (by omega)]; simp
theorem at_mid2 (A : List Int) (u : Int) (M : List Int) (v : Int) (B : List Int) {i j : Nat} (hi : A.length = i) (hj : i + 1 + M.length = j) : (A ++ u :: (M ++ v :: B))[j]? = some v := by
  subst hi hj
  have : A ++ u :: (M ++ v :: B) = (A ++ u :: M) ++ v :: B := by simp
  rw [this]
  exact at_mid _ _ _ (by simp; omega)
end Go.Proofs.YtfgpgmfajjakpaaDoor.U
