/- EscapeReads's walk: the statement that copies, calls and lays its answers, by an invariant of what is done. -/
import Derived.Test.YthdggdjaicfapaaDoorWReads
namespace Go.Proofs.YthdggdjaicfapaaDoor.U
open Go.RowKit
set_option linter.unusedVariables false

def upd (V : Nat → Value) (i : Nat) (v : Value) : Nat → Value := fun j => if j = i then v else V j
theorem upd_self (V : Nat → Value) (i : Nat) (v : Value) : upd V i v i = v := if_pos rfl
theorem upd_other (V : Nat → Value) {i j : Nat} (v : Value) (h : j ≠ i) : upd V i v j = V j := if_neg h
/-- A place of two numbers. -/
def Two (w : World) (p : Nat) (x y : Int) : Prop := w.cell? ⟨p, 0, none⟩ = some (.int .i64 x) ∧ w.cell? ⟨p, 1, none⟩ = some (.int .i64 y) ∧ w.frozen? ⟨p, 0, none⟩ = false ∧ w.frozen? ⟨p, 1, none⟩ = false
theorem Two.bel {w w' : World} {p : Nat} {x y : Int} (h : Two w p x y) (hb : Bel w w') : Two w' p x y := box_keep hb (cell_block h.1) h
theorem Two.new (w : World) (t : TypeId) (x y : Int) : Two (w.alloc (.cells #[.int .i64 x, .int .i64 y] t)) w.heap.size x y := by
  refine ⟨?_, ?_, ?_, ?_⟩ <;> simp [go_sem]
theorem Two.other {w : World} {p q : Nat} {x y : Int} (h : Two w p x y) (hne : p ≠ q) (o : Nat) (v : Value) : Two (w.setCell ⟨q, o, none⟩ v) p x y := by
  obtain ⟨h1, h2, h3, h4⟩ := h
  refine ⟨?_, ?_, ?_, ?_⟩ <;> simp [go_sem, hne, h1, h2, h3, h4]
theorem Two.set {w : World} {p : Nat} {x y : Int} (h : Two w p x y) (a b : Int) : Two ((w.setCell ⟨p, 0, none⟩ (.int .i64 a)).setCell ⟨p, 1, none⟩ (.int .i64 b)) p a b := by
  obtain ⟨h1, h2, h3, h4⟩ := h
  refine ⟨?_, ?_, ?_, ?_⟩ <;> simp [go_sem, h1, h2, h3, h4]

section
variable (w W : World) (A : Option Addr) (n c : Nat) (l : List Int) (z s0 s1 x0 x1 : Int) (N : Nat) (e0 e1 : Int)
/-- The frame, by what the statement's operations have yielded. -/
def rF (V : Nat → Value) : Act := { tmps := #[.slice A n c, .int .i64 z, .agg #[.int .i64 s0, .int .i64 s1], undef, undef, .pointer (some ⟨w.heap.size, 0, none⟩), .bool false, V 10, V 13, V 11, undef, undef, undef, .slice A n c, .int .i64 n, .bool false, undef, V 6, V 0, V 1, V 2, V 3, V 4, V 5, V 7, V 8, V 9, undef, undef, undef, undef, undef, undef, undef, undef, undef, undef, undef, undef, undef, undef, undef, undef, undef, undef, undef, undef, undef, undef, undef, undef], defers := [] }
def rX : Value := .tuple #[.agg #[.int .i64 x0, .int .i64 x1], .int .i64 N, .agg #[.int .i64 e0, .int .i64 e1]]
/-- What each has yielded. -/
def rPhi : Nat → (Nat → Bool) → Value → World → Prop
  | 0, _, v, _ => ∃ g, v = .slice (some ⟨g, 0, none⟩) 0 0
  | 1, _, v, _ => v = .slice A n c
  | 2, L, v, u => ∃ A' c', v = .slice A' n c' ∧ n ≤ c' ∧ (L 12 = false → Rd u u.heap.size .u8 A' l)
  | 3, _, v, _ => v = .int .i64 z
  | 4, _, v, _ => v = .agg #[.int .i64 s0, .int .i64 s1]
  | 5, _, v, _ => v = rX x0 x1 N e0 e1
  | 6, _, v, _ => v = rX x0 x1 N e0 e1
  | 7, _, v, _ => v = .agg #[.int .i64 x0, .int .i64 x1]
  | 8, _, v, _ => v = .int .i64 N
  | 9, _, v, _ => v = .agg #[.int .i64 e0, .int .i64 e1]
  | 10, L, v, u => ∃ p, v = .pointer (some ⟨p, 0, none⟩) ∧ W.heap.size ≤ p ∧ Two u p (if L 12 = true then x0 else 0) (if L 12 = true then x1 else 0)
  | 11, L, v, u => ∃ p, v = .pointer (some ⟨p, 0, none⟩) ∧ W.heap.size ≤ p ∧ Two u p (if L 14 = true then e0 else 0) (if L 14 = true then e1 else 0)
  | 13, _, v, _ => v = .int .i64 N
  | _, _, _, _ => True
def rJ (L : Nat → Bool) (V : Nat → Value) (u : World) : Prop := Bel W u ∧ (∀ j, L j = true → rPhi W A n c l z s0 s1 x0 x1 N e0 e1 j L (V j) u) ∧ (L 10 = true → L 11 = true → V 10 ≠ V 11) ∧ (L 12 = true → L 5 = true ∧ L 10 = true) ∧ (L 14 = true → L 11 = true)
end
section
variable {w W : World} {A : Option Addr} {n c : Nat} {l : List Int} {z s0 s1 x0 x1 : Int} {N : Nat} {e0 e1 : Int}
theorem rphi_bel {j : Nat} {L L' : Nat → Bool} {v : Value} {u u' : World} (h12 : L' 12 = L 12) (h14 : L' 14 = L 14) (hb : Bel u u') (h : rPhi W A n c l z s0 s1 x0 x1 N e0 e1 j L v u) : rPhi W A n c l z s0 s1 x0 x1 N e0 e1 j L' v u' := by
  unfold rPhi at h ⊢
  split <;> (try simp only [h12, h14]) <;> first
    | exact h
    | (obtain ⟨A', c', h1, h2, h3⟩ := h
       exact ⟨A', c', h1, h2, fun h => ((h3 h).bel hb).here⟩)
    | (obtain ⟨p, h1, h2, h3⟩ := h
       exact ⟨p, h1, h2, h3.bel hb⟩)
/-- An operation that stores nothing. -/
theorem rj_step {L : Nat → Bool} {V : Nat → Value} {u u' : World} (i : Nat) (v : Value) (h12 : i ≠ 12) (h14 : i ≠ 14) (hJ : rJ W A n c l z s0 s1 x0 x1 N e0 e1 L V u) (hb : Bel u u') (hv : rPhi W A n c l z s0 s1 x0 x1 N e0 e1 i L v u')
    (hne : i ≠ 10 ∧ i ≠ 11 ∨ v = .pointer (some ⟨u.heap.size, 0, none⟩)) : rJ W A n c l z s0 s1 x0 x1 N e0 e1 (R.setL L i) (upd V i v) u' := by
  obtain ⟨h1, h2, h3, h4, h5⟩ := hJ
  have mono : ∀ j, L j = true → R.setL L i j = true := fun j hj => by
    by_cases e : j = i
    · subst e; exact R.setL_self _ _
    · rw [R.setL_other e]; exact hj
  have e12 : R.setL L i 12 = L 12 := R.setL_other (Ne.symm h12)
  have e14 : R.setL L i 14 = L 14 := R.setL_other (Ne.symm h14)
  refine ⟨h1.trans hb, fun j hj => ?_, fun ha hb' => ?_, fun h => ?_, fun h => ?_⟩
  · by_cases e : j = i
    · subst e
      rw [upd_self]
      exact rphi_bel e12 e14 (Bel.refl _) hv
    · rw [upd_other V v e]
      rw [R.setL_other e] at hj
      exact rphi_bel e12 e14 hb (h2 j hj)
  · rcases hne with ⟨n1, n2⟩ | hp
    · rw [upd_other V v (Ne.symm n1), upd_other V v (Ne.symm n2)]
      rw [R.setL_other (Ne.symm n1)] at ha
      rw [R.setL_other (Ne.symm n2)] at hb'
      exact h3 ha hb'
    · by_cases e1 : i = 10
      · subst e1
        rw [R.setL_other (by decide)] at hb'
        obtain ⟨q, hq, _, ht⟩ := h2 11 hb'
        rw [upd_self, upd_other V v (by decide), hp, hq]
        intro e
        have hlt : q < u.heap.size := cell_block ht.1
        simp at e
      · by_cases e2 : i = 11
        · subst e2
          rw [R.setL_other (by decide)] at ha
          obtain ⟨q, hq, _, ht⟩ := h2 10 ha
          rw [upd_self, upd_other V v (by decide), hp, hq]
          intro e
          have hlt : q < u.heap.size := cell_block ht.1
          simp at e
        · rw [upd_other V v (Ne.symm e1), upd_other V v (Ne.symm e2)]
          rw [R.setL_other (Ne.symm e1)] at ha
          rw [R.setL_other (Ne.symm e2)] at hb'
          exact h3 ha hb'
  · rw [e12] at h
    exact ⟨mono 5 (h4 h).1, mono 10 (h4 h).2⟩
  · rw [e14] at h
    exact mono 11 (h5 h)
/-- The two that store. -/
theorem rj_store {L : Nat → Bool} {V : Nat → Value} {u : World} (i : Nat) (p : Nat) (a b : Int) (v : Value) (hJ : rJ W A n c l z s0 s1 x0 x1 N e0 e1 L V u) (hi : L i = false)
    (h : i = 12 ∧ L 10 = true ∧ L 5 = true ∧ V 10 = .pointer (some ⟨p, 0, none⟩) ∧ a = x0 ∧ b = x1 ∨ i = 14 ∧ L 11 = true ∧ L 12 = true ∧ V 11 = .pointer (some ⟨p, 0, none⟩) ∧ a = e0 ∧ b = e1) :
    rJ W A n c l z s0 s1 x0 x1 N e0 e1 (R.setL L i) (upd V i v) ((u.setCell ⟨p, 0, none⟩ (.int .i64 a)).setCell ⟨p, 1, none⟩ (.int .i64 b)) := by
  obtain ⟨h1, h2, h3, h4, h5⟩ := hJ
  have mono : ∀ j, L j = true → R.setL L i j = true := fun j hj => by
    by_cases e : j = i
    · subst e; exact R.setL_self _ _
    · rw [R.setL_other e]; exact hj
  have oth : ∀ j, i ≠ j → R.setL L i j = L j := fun j hj => R.setL_other (Ne.symm hj)
  rcases h with ⟨rfl, h10, hL5, hp, rfl, rfl⟩ | ⟨rfl, h11, h12, hp, rfl, rfl⟩
  · obtain ⟨p', hp', hge, ht⟩ := h2 10 h10
    obtain rfl : p = p' := by rw [hp] at hp'; simpa using hp'
    refine ⟨(h1.setCell (by show _ ≤ p; exact hge) _).setCell (by show _ ≤ p; exact hge) _, fun j hj => ?_, fun ha hb => ?_, fun _ => ⟨mono 5 hL5, mono 10 h10⟩, fun h => by rw [oth 14 (by decide)] at h; exact mono 11 (h5 h)⟩
    · by_cases e : j = 12
      · subst e; exact trivial
      · rw [upd_other V v e]
        rw [R.setL_other e] at hj
        have old := h2 j hj
        have e12 : R.setL L 12 12 = true := R.setL_self _ _
        have e14 : R.setL L 12 14 = L 14 := R.setL_other (by decide)
        by_cases e10 : j = 10
        · subst e10
          exact ⟨p, hp, hge, by rw [e12]; exact ht.set _ _⟩
        · by_cases e11 : j = 11
          · subst e11
            obtain ⟨q, hq, hqe, hqt⟩ := old
            have hne : q ≠ p := by
              rintro rfl
              exact h3 h10 hj (hp.trans hq.symm)
            exact ⟨q, hq, hqe, by rw [e14]; exact (hqt.other hne _ _).other hne _ _⟩
          · unfold rPhi at old ⊢
            split <;> first
              | exact old
              | (obtain ⟨A', c', g1, g2, _⟩ := old
                 exact ⟨A', c', g1, g2, fun h => by rw [e12] at h; cases h⟩)
              | (exact trivial)
              | (exact absurd rfl e10)
              | (exact absurd rfl e11)
    · rw [oth 10 (by decide)] at ha
      rw [oth 11 (by decide)] at hb
      rw [upd_other V v (by decide), upd_other V v (by decide)]
      exact h3 ha hb
  · obtain ⟨p', hp', hge, ht⟩ := h2 11 h11
    obtain rfl : p = p' := by rw [hp] at hp'; simpa using hp'
    refine ⟨(h1.setCell (by show _ ≤ p; exact hge) _).setCell (by show _ ≤ p; exact hge) _, fun j hj => ?_, fun ha hb => ?_, fun h => ?_, fun _ => mono 11 h11⟩
    · by_cases e : j = 14
      · subst e; exact trivial
      · rw [upd_other V v e]
        rw [R.setL_other e] at hj
        have old := h2 j hj
        have e14 : R.setL L 14 14 = true := R.setL_self _ _
        have e12 : R.setL L 14 12 = L 12 := R.setL_other (by decide)
        by_cases e11 : j = 11
        · subst e11
          exact ⟨p, hp, hge, by rw [e14]; exact ht.set _ _⟩
        · by_cases e10 : j = 10
          · subst e10
            obtain ⟨q, hq, hqe, hqt⟩ := old
            have hne : q ≠ p := by
              rintro rfl
              exact h3 hj h11 (hq.trans hp.symm)
            exact ⟨q, hq, hqe, by rw [e12]; exact (hqt.other hne _ _).other hne _ _⟩
          · unfold rPhi at old ⊢
            split <;> first
              | exact old
              | (obtain ⟨A', c', g1, g2, _⟩ := old
                 exact ⟨A', c', g1, g2, fun h => by rw [e12, h12] at h; cases h⟩)
              | (exact trivial)
              | (exact absurd rfl e10)
              | (exact absurd rfl e11)
    · rw [oth 10 (by decide)] at ha
      rw [oth 11 (by decide)] at hb
      rw [upd_other V v (by decide), upd_other V v (by decide)]
      exact h3 ha hb
    · rw [oth 12 (by decide)] at h
      exact ⟨mono 5 (h4 h).1, mono 10 (h4 h).2⟩
end
end Go.Proofs.YthdggdjaicfapaaDoor.U
