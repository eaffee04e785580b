/- EscapeCut's walk: the statement that cuts, calls and lays its answers, by an invariant of what is done. -/
import Derived.Test.YthdggdjaicfapaaDoorWAll
namespace Go.Proofs.YthdggdjaicfapaaDoor.U
open Go.RowKit
set_option linter.unusedVariables false

theorem str_cons (x : Int) (l : List Int) : str (x :: l) = str [x] ++ str l := str_add [x] l
theorem str_take (l : List Int) (k : Nat) : (str l).extract 0 k = str (l.take k) := by
  apply ByteArray.ext
  rw [ByteArray.data_extract]
  simp [str, bs]
section
variable (w W : World) (b8 : Nat) (kI : Int) (B : List Int) (k kL : Nat) (s0 s1 x0 x1 : Int) (N : Nat) (e0 e1 : Int)
/-- The frame, by what the statement's operations have yielded. -/
def cF (z c : Int) (g cap i side set m : Nat) (rI : Int) (rb : Bool) (V : Nat → Value) : Act := { tmps := #[.int .u8 z, .int .u8 c, .agg #[.int .i64 s0, .int .i64 s1], undef, undef, .pointer (some ⟨w.heap.size, 0, none⟩), .bool false, .slice (some ⟨g, 0, none⟩) 40 cap, .pointer (some ⟨b8, 0, none⟩), .int .i64 kI, V 12, V 15, V 13, undef, undef, undef, undef, .slice (some ⟨g, 0, none⟩) 40 cap, .slice (some ⟨g, 0, none⟩) 40 cap, .int .u8 z, .int .i64 z, .slice (some ⟨g, 0, none⟩) 40 cap, .int .i64 40, .int .i64 i, .pointer (some ⟨g, i * 3, none⟩), .agg #[.string (str B), .int .i64 side, .int .i64 set], .int .u8 c, .int .i64 c, .pointer (some ⟨b8, 0, none⟩), .string (str B), .int .i64 m, .int .i64 rI, .int .i64 rI, .bool rb, V 8, V 0, V 1, V 2, V 3, V 4, V 5, V 6, V 7, V 9, V 10, V 11, undef, undef, undef, undef, undef, undef, undef, undef, undef, undef, undef, undef, undef, undef, undef, undef, undef, undef, undef, undef, undef, undef, undef, undef, undef, undef, undef, undef, undef], defers := [] }
/-- What each has yielded. -/
def cPhi : Nat → (Nat → Bool) → Value → World → Prop
  | 0, _, v, _ => v = .pointer (some ⟨b8, 0, none⟩)
  | 1, _, v, _ => v = .string (str B)
  | 2, _, v, _ => v = .int .i64 kI
  | 3, _, v, _ => v = .string (str (B.take k))
  | 4, _, v, _ => v = .string (str (97 :: B.take k))
  | 5, L, v, u => ∃ A' c', v = .slice A' kL c' ∧ kL ≤ c' ∧ (L 14 = false → Rd u u.heap.size .u8 A' (97 :: B.take k))
  | 6, _, v, _ => v = .agg #[.int .i64 s0, .int .i64 s1]
  | 7, _, v, _ => v = rX x0 x1 N e0 e1
  | 8, _, v, _ => v = rX x0 x1 N e0 e1
  | 9, _, v, _ => v = .agg #[.int .i64 x0, .int .i64 x1]
  | 10, _, v, _ => v = .int .i64 N
  | 11, _, v, _ => v = .agg #[.int .i64 e0, .int .i64 e1]
  | 12, L, v, u => ∃ p, v = .pointer (some ⟨p, 0, none⟩) ∧ W.heap.size ≤ p ∧ Two u p (if L 14 = true then x0 else 0) (if L 14 = true then x1 else 0)
  | 13, L, v, u => ∃ p, v = .pointer (some ⟨p, 0, none⟩) ∧ W.heap.size ≤ p ∧ Two u p (if L 16 = true then e0 else 0) (if L 16 = true then e1 else 0)
  | 15, _, v, _ => v = .int .i64 N
  | _, _, _, _ => True
def cJ (L : Nat → Bool) (V : Nat → Value) (u : World) : Prop := Bel W u ∧ (∀ j, L j = true → cPhi W b8 kI B k kL s0 s1 x0 x1 N e0 e1 j L (V j) u) ∧ (L 12 = true → L 13 = true → V 12 ≠ V 13) ∧ (L 14 = true → L 7 = true ∧ L 12 = true) ∧ (L 16 = true → L 13 = true)
end
section
variable {w W : World} {b8 k kL : Nat} {B : List Int} {kI s0 s1 x0 x1 : Int} {N : Nat} {e0 e1 : Int}
theorem cphi_bel {j : Nat} {L L' : Nat → Bool} {v : Value} {u u' : World} (h12 : L' 14 = L 14) (h14 : L' 16 = L 16) (hb : Bel u u') (h : cPhi W b8 kI B k kL s0 s1 x0 x1 N e0 e1 j L v u) : cPhi W b8 kI B k kL s0 s1 x0 x1 N e0 e1 j L' v u' := by
  unfold cPhi at h ⊢
  split <;> (try simp only [h12, h14]) <;> first
    | exact h
    | (obtain ⟨A', c', h1, h2, h3⟩ := h
       exact ⟨A', c', h1, h2, fun h => ((h3 h).bel hb).here⟩)
    | (obtain ⟨p, h1, h2, h3⟩ := h
       exact ⟨p, h1, h2, h3.bel hb⟩)
/-- An operation that stores nothing. -/
theorem cj_step {L : Nat → Bool} {V : Nat → Value} {u u' : World} (i : Nat) (v : Value) (h12 : i ≠ 14) (h14 : i ≠ 16) (hJ : cJ W b8 kI B k kL s0 s1 x0 x1 N e0 e1 L V u) (hb : Bel u u') (hv : cPhi W b8 kI B k kL s0 s1 x0 x1 N e0 e1 i L v u')
    (hne : i ≠ 12 ∧ i ≠ 13 ∨ v = .pointer (some ⟨u.heap.size, 0, none⟩)) : cJ W b8 kI B k kL s0 s1 x0 x1 N e0 e1 (R.setL L i) (upd V i v) u' := by
  obtain ⟨h1, h2, h3, h4, h5⟩ := hJ
  have mono : ∀ j, L j = true → R.setL L i j = true := fun j hj => by
    by_cases e : j = i
    · subst e; exact R.setL_self _ _
    · rw [R.setL_other e]; exact hj
  have e12 : R.setL L i 14 = L 14 := R.setL_other (Ne.symm h12)
  have e14 : R.setL L i 16 = L 16 := R.setL_other (Ne.symm h14)
  refine ⟨h1.trans hb, fun j hj => ?_, fun ha hb' => ?_, fun h => ?_, fun h => ?_⟩
  · by_cases e : j = i
    · subst e
      rw [upd_self]
      exact cphi_bel e12 e14 (Bel.refl _) hv
    · rw [upd_other V v e]
      rw [R.setL_other e] at hj
      exact cphi_bel e12 e14 hb (h2 j hj)
  · rcases hne with ⟨n1, n2⟩ | hp
    · rw [upd_other V v (Ne.symm n1), upd_other V v (Ne.symm n2)]
      rw [R.setL_other (Ne.symm n1)] at ha
      rw [R.setL_other (Ne.symm n2)] at hb'
      exact h3 ha hb'
    · by_cases e1 : i = 12
      · subst e1
        rw [R.setL_other (by decide)] at hb'
        obtain ⟨q, hq, _, ht⟩ := h2 13 hb'
        rw [upd_self, upd_other V v (by decide), hp, hq]
        intro e
        have hlt : q < u.heap.size := cell_block ht.1
        simp at e
      · by_cases e2 : i = 13
        · subst e2
          rw [R.setL_other (by decide)] at ha
          obtain ⟨q, hq, _, ht⟩ := h2 12 ha
          rw [upd_self, upd_other V v (by decide), hp, hq]
          intro e
          have hlt : q < u.heap.size := cell_block ht.1
          simp at e
        · rw [upd_other V v (Ne.symm e1), upd_other V v (Ne.symm e2)]
          rw [R.setL_other (Ne.symm e1)] at ha
          rw [R.setL_other (Ne.symm e2)] at hb'
          exact h3 ha hb'
  · rw [e12] at h
    exact ⟨mono 7 (h4 h).1, mono 12 (h4 h).2⟩
  · rw [e14] at h
    exact mono 13 (h5 h)
/-- The two that store. -/
theorem cj_store {L : Nat → Bool} {V : Nat → Value} {u : World} (i : Nat) (p : Nat) (a b : Int) (v : Value) (hJ : cJ W b8 kI B k kL s0 s1 x0 x1 N e0 e1 L V u) (hi : L i = false)
    (h : i = 14 ∧ L 12 = true ∧ L 7 = true ∧ V 12 = .pointer (some ⟨p, 0, none⟩) ∧ a = x0 ∧ b = x1 ∨ i = 16 ∧ L 13 = true ∧ L 14 = true ∧ V 13 = .pointer (some ⟨p, 0, none⟩) ∧ a = e0 ∧ b = e1) :
    cJ W b8 kI B k kL s0 s1 x0 x1 N e0 e1 (R.setL L i) (upd V i v) ((u.setCell ⟨p, 0, none⟩ (.int .i64 a)).setCell ⟨p, 1, none⟩ (.int .i64 b)) := by
  obtain ⟨h1, h2, h3, h4, h5⟩ := hJ
  have mono : ∀ j, L j = true → R.setL L i j = true := fun j hj => by
    by_cases e : j = i
    · subst e; exact R.setL_self _ _
    · rw [R.setL_other e]; exact hj
  have oth : ∀ j, i ≠ j → R.setL L i j = L j := fun j hj => R.setL_other (Ne.symm hj)
  rcases h with ⟨rfl, h10, hL5, hp, rfl, rfl⟩ | ⟨rfl, h11, h12, hp, rfl, rfl⟩
  · obtain ⟨p', hp', hge, ht⟩ := h2 12 h10
    obtain rfl : p = p' := by rw [hp] at hp'; simpa using hp'
    refine ⟨(h1.setCell (by show _ ≤ p; exact hge) _).setCell (by show _ ≤ p; exact hge) _, fun j hj => ?_, fun ha hb => ?_, fun _ => ⟨mono 7 hL5, mono 12 h10⟩, fun h => by rw [oth 16 (by decide)] at h; exact mono 13 (h5 h)⟩
    · by_cases e : j = 14
      · subst e; exact trivial
      · rw [upd_other V v e]
        rw [R.setL_other e] at hj
        have old := h2 j hj
        have e12 : R.setL L 14 14 = true := R.setL_self _ _
        have e14 : R.setL L 14 16 = L 16 := R.setL_other (by decide)
        by_cases e10 : j = 12
        · subst e10
          exact ⟨p, hp, hge, by rw [e12]; exact ht.set _ _⟩
        · by_cases e11 : j = 13
          · subst e11
            obtain ⟨q, hq, hqe, hqt⟩ := old
            have hne : q ≠ p := by
              rintro rfl
              exact h3 h10 hj (hp.trans hq.symm)
            exact ⟨q, hq, hqe, by rw [e14]; exact (hqt.other hne _ _).other hne _ _⟩
          · unfold cPhi at old ⊢
            split <;> first
              | exact old
              | (obtain ⟨A', c', g1, g2, _⟩ := old
                 exact ⟨A', c', g1, g2, fun h => by rw [e12] at h; cases h⟩)
              | (exact trivial)
              | (exact absurd rfl e10)
              | (exact absurd rfl e11)
    · rw [oth 12 (by decide)] at ha
      rw [oth 13 (by decide)] at hb
      rw [upd_other V v (by decide), upd_other V v (by decide)]
      exact h3 ha hb
  · obtain ⟨p', hp', hge, ht⟩ := h2 13 h11
    obtain rfl : p = p' := by rw [hp] at hp'; simpa using hp'
    refine ⟨(h1.setCell (by show _ ≤ p; exact hge) _).setCell (by show _ ≤ p; exact hge) _, fun j hj => ?_, fun ha hb => ?_, fun h => ?_, fun _ => mono 13 h11⟩
    · by_cases e : j = 16
      · subst e; exact trivial
      · rw [upd_other V v e]
        rw [R.setL_other e] at hj
        have old := h2 j hj
        have e14 : R.setL L 16 16 = true := R.setL_self _ _
        have e12 : R.setL L 16 14 = L 14 := R.setL_other (by decide)
        by_cases e11 : j = 13
        · subst e11
          exact ⟨p, hp, hge, by rw [e14]; exact ht.set _ _⟩
        · by_cases e10 : j = 12
          · subst e10
            obtain ⟨q, hq, hqe, hqt⟩ := old
            have hne : q ≠ p := by
              rintro rfl
              exact h3 hj h11 (hq.trans hp.symm)
            exact ⟨q, hq, hqe, by rw [e12]; exact (hqt.other hne _ _).other hne _ _⟩
          · unfold cPhi at old ⊢
            split <;> first
              | exact old
              | (obtain ⟨A', c', g1, g2, _⟩ := old
                 exact ⟨A', c', g1, g2, fun h => by rw [e12, h12] at h; cases h⟩)
              | (exact trivial)
              | (exact absurd rfl e10)
              | (exact absurd rfl e11)
    · rw [oth 12 (by decide)] at ha
      rw [oth 13 (by decide)] at hb
      rw [upd_other V v (by decide), upd_other V v (by decide)]
      exact h3 ha hb
    · rw [oth 14 (by decide)] at h
      exact ⟨mono 7 (h4 h).1, mono 12 (h4 h).2⟩
end
end Go.Proofs.YthdggdjaicfapaaDoor.U
