/- Plain mathematics: the first scalar of bytes, by its first byte and those behind it. No condition. -/
import Derived.Test.YtambempcicakgaaMath
namespace Go.Proofs.Ytambempcicakgaa.U

/-- The number that the first k + 1 of n bytes tell. -/
def facc (l : List Int) (n : Nat) : Nat → Int
  | 0 => l.getD 0 0 - hd n
  | k + 1 => facc l n k * 64 + (l.getD (k + 1) 0 - 128)

/-- The bytes behind the first one, up to the k-th, are such as stand behind a first one. -/
def Conts (l : List Int) (k : Nat) : Prop := ∀ j, 1 ≤ j → j ≤ k → 128 ≤ l.getD j 0 ∧ l.getD j 0 < 192


theorem an_cases (c : Int) : (c < 128 ∧ an c = 1) ∨ (an c = 0 ∧ (128 ≤ c ∧ c < 192 ∨ 248 ≤ c)) ∨ (192 ≤ c ∧ c < 224 ∧ an c = 2) ∨ (224 ≤ c ∧ c < 240 ∧ an c = 3) ∨ (240 ≤ c ∧ c < 248 ∧ an c = 4) := by
  unfold an
  (repeat' split) <;> omega

/-- What holds of bytes that begin with a scalar's. -/
theorem first_inv {l t : List Int} {r : Int} (hs : scB r = true) (h : l = enc1 r ++ t) :
    an (l.getD 0 0) = ln r ∧ ln r ≤ l.length ∧ Conts l (ln r - 1) ∧ facc l (ln r) (ln r - 1) = r := by
  subst h
  rcases enc_cases hs with ⟨a, b, c, e⟩ | ⟨a, b, c, e⟩ | ⟨a, b, c, e⟩ | ⟨a, b, c, e⟩
  · rw [e, c]
    refine ⟨?_, by simp, fun j h1 h2 => by omega, by simp [facc, hd1]⟩
    rcases an_cases r with h | h | h | h | h <;> simp <;> omega
  · rw [e, c]
    refine ⟨?_, by simp, fun j h1 h2 => ?_, by simp [facc, hd2]; omega⟩
    · rcases an_cases (192 + r / 64) with h | h | h | h | h <;> simp <;> omega
    · obtain rfl : j = 1 := by omega
      simp; omega
  · rw [e, c]
    refine ⟨?_, by simp, fun j h1 h2 => ?_, by simp [facc, hd3]; omega⟩
    · rcases an_cases (224 + r / 4096) with h | h | h | h | h <;> simp <;> omega
    · obtain rfl | rfl : j = 1 ∨ j = 2 := by omega
      all_goals simp; omega
  · rw [e, c]
    refine ⟨?_, by simp, fun j h1 h2 => ?_, by simp [facc, hd4]; omega⟩
    · rcases an_cases (240 + r / 262144) with h | h | h | h | h <;> simp <;> omega
    · obtain rfl | rfl | rfl : j = 1 ∨ j = 2 ∨ j = 3 := by omega
      all_goals simp; omega

theorem no_an0 {l : List Int} (h : an (l.getD 0 0) = 0) : NoFirst l := fun r t hs he => by
  have := (first_inv hs he).1
  have := (ln_pos hs).1
  omega
theorem no_short {l : List Int} (h : l.length < an (l.getD 0 0)) : NoFirst l := fun r t hs he => by
  have := first_inv hs he
  omega
theorem no_cont {l : List Int} {j : Nat} (h1 : 1 ≤ j) (h2 : j < an (l.getD 0 0)) (h : ¬ (128 ≤ l.getD j 0 ∧ l.getD j 0 < 192)) : NoFirst l := fun r t hs he => by
  have h3 := first_inv hs he
  exact h (h3.2.2.1 j h1 (by omega))
theorem no_ln {l : List Int} (h : ln (facc l (an (l.getD 0 0)) (an (l.getD 0 0) - 1)) ≠ an (l.getD 0 0)) : NoFirst l := fun r t hs he => by
  have h3 := first_inv hs he
  rw [h3.1, h3.2.2.2] at h
  exact h rfl

/-- .. and the other way round. -/
theorem first_mk {l : List Int} {n : Nat} (h0 : 0 ≤ l.getD 0 0) (hn : an (l.getD 0 0) = n) (h1 : 1 ≤ n) (h2 : n ≤ l.length) (hc : Conts l (n - 1)) (hl : ln (facc l n (n - 1)) = n) :
    l = enc1 (facc l n (n - 1)) ++ l.drop n := by
  rcases an_cases (l.getD 0 0) with h | h | h | h | h
  · obtain rfl : n = 1 := by omega
    match l, h2 with
    | b0 :: t, _ =>
      rw [enc_1 hl]
      simp [facc, hd1]
  · omega
  · obtain rfl : n = 2 := by omega
    match l, h2 with
    | b0 :: b1 :: t, _ =>
      have k1 := hc 1 (by omega) (by omega)
      rw [enc_2 hl]
      simp [facc, hd2] at h k1 ⊢
      omega
  · obtain rfl : n = 3 := by omega
    match l, h2 with
    | b0 :: b1 :: b2 :: t, _ =>
      have k1 := hc 1 (by omega) (by omega)
      have k2 := hc 2 (by omega) (by omega)
      rw [enc_3 hl]
      simp [facc, hd3] at h k1 k2 ⊢
      omega
  · obtain rfl : n = 4 := by omega
    match l, h2 with
    | b0 :: b1 :: b2 :: b3 :: t, _ =>
      have k1 := hc 1 (by omega) (by omega)
      have k2 := hc 2 (by omega) (by omega)
      have k3 := hc 3 (by omega) (by omega)
      rw [enc_4 hl]
      simp [facc, hd4] at h k1 k2 k3 ⊢
      omega

theorem Conts.snoc {l : List Int} {k : Nat} (h : Conts l k) (hx : 128 ≤ l.getD (k + 1) 0 ∧ l.getD (k + 1) 0 < 192) : Conts l (k + 1) := fun j h1 h2 => by
  by_cases e : j = k + 1
  · subst e; exact hx
  · exact h j h1 (by omega)

end Go.Proofs.Ytambempcicakgaa.U
