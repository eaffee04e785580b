/- Escapes that are read, as plain lists of numbers: which escape a text begins with; what package escape makes of a text's head and of what stands behind it. No program is named here. -/
import Derived.Test.YthdggdjaicfapaaDoorMath
namespace Go.Proofs.YthdggdjaicfapaaDoor.U
set_option linter.unusedVariables false

/-- The bytes that may stand between the byte 27 and a set's last bytes. -/
def isHead (x : Int) : Bool := x == 36 || x == 40 || x == 41 || x == 44 || x == 45
def headOf (t : List Int) : List Int := t.takeWhile isHead
def restOf (t : List Int) : List Int := t.dropWhile isHead
theorem head_rest (t : List Int) : headOf t ++ restOf t = t := List.takeWhile_append_dropWhile

/-- An escape of n bytes begins the text, that makes the set that side's. -/
def Reads (r : List Int) (side set : Int) (n : Nat) : Prop := ∃ p, (p, side, set) ∈ escs ∧ p.length = n ∧ p <+: r
def NoEsc (r : List Int) : Prop := ∀ e ∈ escs, ¬ e.1 <+: r

theorem escs_apart : ∀ e ∈ escs, ∀ f ∈ escs, e.1 <+: f.1 → e = f := by decide +kernel
theorem prefix_one {r : List Int} {e f : Esc} (he : e ∈ escs) (hf : f ∈ escs) (h : e.1 <+: r) (k : f.1 <+: r) : e = f := by
  rcases List.prefix_or_prefix_of_prefix h k with h | h
  · exact escs_apart e he f hf h
  · exact (escs_apart f hf e he h).symm
theorem reads_one {r : List Int} {s t s' t' : Int} {n n' : Nat} (h : Reads r s t n) (k : Reads r s' t' n') : s = s' ∧ t = t' ∧ n = n' := by
  obtain ⟨p, h1, h2, h3⟩ := h
  obtain ⟨q, k1, k2, k3⟩ := k
  have := prefix_one h1 k1 h3 k3
  simp only [Prod.mk.injEq] at this
  obtain ⟨rfl, rfl, rfl⟩ := this
  exact ⟨rfl, rfl, h2.symm.trans k2⟩
theorem reads_no {r : List Int} {s t : Int} {n : Nat} (h : Reads r s t n) (k : NoEsc r) : False := by
  obtain ⟨p, h1, _, h3⟩ := h
  exact k _ h1 h3

/-- The first one of k sets, from s on, whose last bytes the text begins with, and how many these are; no bytes if there is none. -/
def amongL (rest : List Int) : Nat → Nat → Nat × Nat
  | _, 0 => (0, 0)
  | s, k + 1 => if (lastT.getD s []).isPrefixOf rest = true then (s, (lastT.getD s []).length) else amongL rest (s + 1) k
theorem among_sound {rest : List Int} : ∀ {k s j n : Nat}, amongL rest s k = (j, n) → n ≠ 0 → s ≤ j ∧ j < s + k ∧ n = (lastT.getD j []).length ∧ lastT.getD j [] <+: rest
  | 0, s, j, n, h, hn => by
    simp only [amongL, Prod.mk.injEq] at h
    omega
  | k + 1, s, j, n, h, hn => by
    rw [amongL] at h
    split at h
    · rename_i hp
      simp only [Prod.mk.injEq] at h
      obtain ⟨rfl, rfl⟩ := h
      exact ⟨Nat.le_refl _, by omega, rfl, List.isPrefixOf_iff_prefix.1 hp⟩
    · obtain ⟨h1, h2, h3, h4⟩ := among_sound h hn
      exact ⟨by omega, by omega, h3, h4⟩
def aloneL (rest : List Int) : Nat × Nat := if [115].isPrefixOf rest = true then (1, 1) else amongL rest 10 3

/-- The side, the set, the last bytes' number, by what stands between. -/
def tellL (head rest : List Int) : Nat × Nat × Nat :=
  if head = [41] ∨ head = [45] then (1, amongL rest 1 8)
  else if head = [40] ∨ head = [44] then (0, amongL rest 1 8)
  else if head = [36, 41] ∨ head = [36, 45] then (1, amongL rest 9 1)
  else if head = [36] ∨ head = [36, 44] then (0, amongL rest 9 1)
  else if head = [] then (0, aloneL rest) else (0, 0, 0)

def Eight (j : Nat) : Prop := (((27 :: ([41] ++ lastT.getD j []), 1, (j : Int)) : Esc) ∈ escs ∧ ((27 :: ([45] ++ lastT.getD j []), 1, (j : Int)) : Esc) ∈ escs
    ∧ ((27 :: ([40] ++ lastT.getD j []), 0, (j : Int)) : Esc) ∈ escs ∧ ((27 :: ([44] ++ lastT.getD j []), 0, (j : Int)) : Esc) ∈ escs)
theorem tell_eight (j : Nat) (h9 : j < 9) (h1 : 1 ≤ j) : Eight j := by
  have : j = 1 ∨ j = 2 ∨ j = 3 ∨ j = 4 ∨ j = 5 ∨ j = 6 ∨ j = 7 ∨ j = 8 := by omega
  rcases this with rfl | rfl | rfl | rfl | rfl | rfl | rfl | rfl <;> exact ⟨by decide +kernel, by decide +kernel, by decide +kernel, by decide +kernel⟩
theorem tell_last (j : Nat) (h9 : j < 13) (h1 : 10 ≤ j) : ((27 :: ([] ++ lastT.getD j []), 0, (j : Int)) : Esc) ∈ escs := by
  have : j = 10 ∨ j = 11 ∨ j = 12 := by omega
  rcases this with rfl | rfl | rfl <;> decide +kernel
theorem tell_reads {t : List Int} {side set n : Nat} (h : tellL (headOf t) (restOf t) = (side, set, n)) (hn : n ≠ 0) : Reads (27 :: t) side set (1 + (headOf t).length + n) := by
  have key : ∀ L : List Int, ((27 :: (headOf t ++ L), (side : Int), (set : Int)) : Esc) ∈ escs → L.length = n → L <+: restOf t → Reads (27 :: t) side set (1 + (headOf t).length + n) := by
    intro L hm hl hp
    refine ⟨_, hm, by simp [hl]; omega, ?_⟩
    obtain ⟨x, hx⟩ := hp
    refine ⟨x, ?_⟩
    rw [List.cons_append, List.append_assoc, hx, head_rest]
  unfold tellL at h
  generalize headOf t = hd at h key
  split at h
  · rename_i hc
    simp only [Prod.mk.injEq] at h
    obtain ⟨rfl, h⟩ := h
    obtain ⟨h1, h2, h3, h4⟩ := among_sound h hn
    obtain ⟨e1, e2, e3, e4⟩ := tell_eight set (by omega) h1
    refine key _ ?_ h3.symm h4
    rcases hc with rfl | rfl
    · exact e1
    · exact e2
  · split at h
    · rename_i hc
      simp only [Prod.mk.injEq] at h
      obtain ⟨rfl, h⟩ := h
      obtain ⟨h1, h2, h3, h4⟩ := among_sound h hn
      obtain ⟨e1, e2, e3, e4⟩ := tell_eight set (by omega) h1
      refine key _ ?_ h3.symm h4
      rcases hc with rfl | rfl
      · exact e3
      · exact e4
    · split at h
      · rename_i hc
        simp only [Prod.mk.injEq] at h
        obtain ⟨rfl, h⟩ := h
        obtain ⟨h1, h2, h3, h4⟩ := among_sound h hn
        obtain rfl : set = 9 := by omega
        refine key _ ?_ h3.symm h4
        rcases hc with rfl | rfl <;> decide
      · split at h
        · rename_i hc
          simp only [Prod.mk.injEq] at h
          obtain ⟨rfl, h⟩ := h
          obtain ⟨h1, h2, h3, h4⟩ := among_sound h hn
          obtain rfl : set = 9 := by omega
          refine key _ ?_ h3.symm h4
          rcases hc with rfl | rfl <;> decide
        · split at h
          · rename_i hc
            subst hc
            simp only [Prod.mk.injEq] at h
            obtain ⟨rfl, h⟩ := h
            unfold aloneL at h
            split at h
            · rename_i hp
              simp only [Prod.mk.injEq] at h
              obtain ⟨rfl, rfl⟩ := h
              exact key [115] (by decide) rfl (List.isPrefixOf_iff_prefix.1 hp)
            · obtain ⟨h1, h2, h3, h4⟩ := among_sound h hn
              exact key _ (tell_last set (by omega) h1) h3.symm h4
          · simp only [Prod.mk.injEq] at h
            omega
theorem tell_some : ∀ e ∈ escs, ∀ x : List Int, (tellL (headOf (e.1.tail ++ x)) (restOf (e.1.tail ++ x))).2.2 ≠ 0 := by
  intro e he x
  simp only [escs, List.mem_cons, List.not_mem_nil, or_false] at he
  rcases he with rfl | rfl | rfl | rfl | rfl | rfl | rfl | rfl | rfl | rfl | rfl | rfl | rfl | rfl | rfl | rfl | rfl | rfl | rfl | rfl | rfl | rfl | rfl | rfl | rfl | rfl | rfl | rfl | rfl | rfl | rfl | rfl | rfl | rfl | rfl | rfl | rfl | rfl | rfl | rfl
  all_goals first
    | exact fun h => absurd (show (1 : Nat) = 0 from h) (by decide)
    | exact fun h => absurd (show (2 : Nat) = 0 from h) (by decide)
theorem escs_begin : ∀ e ∈ escs, e.1 = 27 :: e.1.tail := by decide +kernel
theorem tell_none {t : List Int} (h : (tellL (headOf t) (restOf t)).2.2 = 0) : NoEsc (27 :: t) := by
  intro e he hp
  obtain ⟨x, hx⟩ := hp
  rw [escs_begin e he, List.cons_append] at hx
  have hx' := (List.cons.inj hx).2
  have := tell_some e he x
  rw [hx'] at this
  exact this h
theorem cut_none : ∀ e ∈ escs, ∀ k, k < e.1.length → ∀ f ∈ escs, ¬ f.1 <+: e.1.take k := by decide +kernel
theorem second_not : ∀ e ∈ escs, e.1[1]? ≠ some 27 := by decide +kernel
theorem none_empty {l : List Int} {k : Nat} (h : l.drop k = []) : NoEsc (l.drop k) := by
  rw [h]
  intro e he hp
  have h2 := (escs_ok e he).2.1
  have h3 := hp.length_le
  rw [List.length_nil] at h3
  omega
/-- Both escapes of a print, one behind the other. -/
theorem reads_at {a b : List Int} {side set : Int} (h : (b, side, set) ∈ escs) (c : List Int) : Reads (b ++ c) side set b.length := ⟨b, h, rfl, List.prefix_append _ _⟩
end Go.Proofs.YthdggdjaicfapaaDoor.U
