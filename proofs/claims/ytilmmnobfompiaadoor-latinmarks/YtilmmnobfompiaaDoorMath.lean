/- The chapter's list of Extended Latin, a row a number: the number, and its character; what it is to look a number up; digits of base 16. Plain mathematics. -/
import Derived.KernelRfl
namespace Go.Proofs.YtilmmnobfompiaaDoor.U
set_option linter.unusedVariables false

/-- The chapter's list. -/
def tabA : List (Int × Int) := [(33, 321), (34, 216), (35, 272), (36, 222), (37, 198), (38, 338), (39, 697), (40, 183), (41, 9837), (42, 174), (43, 177), (44, 416), (45, 431), (46, 700), (48, 699), (49, 322), (50, 248), (51, 273), (52, 254), (53, 230), (54, 339), (55, 698), (56, 305), (57, 163), (58, 240), (60, 417), (61, 432), (64, 176), (65, 8467), (66, 8471), (67, 169), (68, 9839), (69, 191), (70, 161), (71, 223), (72, 8364), (96, 777), (97, 768), (98, 769), (99, 770), (100, 771), (101, 772), (102, 774), (103, 775), (104, 776), (105, 780), (106, 778), (107, 65056), (108, 65057), (109, 789), (110, 779), (111, 784), (112, 807), (113, 808), (114, 803), (115, 804), (116, 805), (117, 819), (118, 818), (119, 806), (120, 796), (121, 814), (122, 65058), (123, 65059), (126, 787)]
/-- The character of a number, and whether it has one. -/
def look (n : Int) : Int × Bool := match tabA.find? (fun p => p.1 == n) with
  | some p => (p.2, true)
  | none => (0, false)
theorem look_yes {n r : Int} (h : look n = (r, true)) : (n, r) ∈ tabA := by
  unfold look at h
  split at h
  · rename_i p hp
    have h1 := List.find?_some hp
    have h2 := List.mem_of_find?_eq_some hp
    obtain ⟨a, b⟩ := p
    simp at h h1
    subst h h1
    exact h2
  · simp at h
theorem look_no {n r : Int} (h : look n = (r, false)) : r = 0 := by
  unfold look at h
  split at h
  · simp at h
  · simp at h; exact h.symm
theorem look_hit {pre rest : List (Int × Int)} {n r : Int} (hA : tabA = pre ++ (n, r) :: rest) (hp : ∀ p ∈ pre, p.1 ≠ n) : look n = (r, true) := by
  have : tabA.find? (fun p => p.1 == n) = some (n, r) := by
    rw [hA, List.find?_append, List.find?_eq_none.2 (fun p h => by simpa using hp p h)]
    simp
  unfold look
  rw [this]
theorem look_miss {n : Int} (hp : ∀ p ∈ tabA, p.1 ≠ n) : look n = (0, false) := by
  unfold look
  rw [List.find?_eq_none.2 (fun p h => by simpa using hp p h)]
def in32 (p : Int × Int) : Bool := decide (33 ≤ p.1) && decide (p.1 ≤ 126) && decide (128 ≤ p.2) && decide (p.2 ≤ 65535)
theorem tabA_in : tabA.all in32 = true := by kernel_rfl
theorem tabA_row {p : Int × Int} (h : p ∈ tabA) : 33 ≤ p.1 ∧ p.1 ≤ 126 ∧ 128 ≤ p.2 ∧ p.2 ≤ 65535 := by
  have := List.all_eq_true.1 tabA_in p h
  simp [in32] at this
  omega
theorem look_fit {n r : Int} {b : Bool} (h : look n = (r, b)) : 0 ≤ r ∧ r ≤ 65535 := by
  cases b with
  | true => have := tabA_row (look_yes h); simp at this; omega
  | false => have := look_no h; omega
theorem tabA_one : tabA.all (fun p => tabA.all fun q => (p.2 == q.2) == (p.1 == q.1)) = true := by kernel_rfl
theorem look_apart {a b x y : Int} (ha : look a = (x, true)) (hb : look b = (y, true)) : (x == y) = (a == b) := by
  have h1 := List.all_eq_true.1 tabA_one _ (look_yes ha)
  have h2 := List.all_eq_true.1 h1 _ (look_yes hb)
  exact eq_of_beq h2
theorem look_97 : look 97 = (768, true) := by kernel_rfl

def isD (c : Int) : Bool := decide (48 ≤ c) && decide (c ≤ 57) || decide (65 ≤ c) && decide (c ≤ 70)
def val (c : Int) : Int := if c < 58 then c - 48 else c - 55
theorem isD_true {c : Int} : isD c = true ↔ (48 ≤ c ∧ c ≤ 57) ∨ (65 ≤ c ∧ c ≤ 70) := by simp [isD]
def num (l : List Int) : Int := l.foldl (fun a c => 16 * a + val c) 0
theorem num_snoc (l : List Int) (c : Int) : num (l ++ [c]) = 16 * num l + val c := by simp [num]
theorem D_range {c : Int} (h : isD c = true) : 0 ≤ val c ∧ val c < 16 := by
  rw [isD_true] at h; unfold val; split <;> omega
theorem num_range {l : List Int} (hD : ∀ c ∈ l, isD c = true) (h6 : l.length ≤ 6) : 0 ≤ num l ∧ num l < 16777216 := by
  have key : ∀ k (l : List Int), l.length = k → (∀ c ∈ l, isD c = true) → 0 ≤ num l ∧ num l < 16 ^ k := by
    intro k
    induction k with
    | zero => intro l hl _; rw [List.eq_nil_of_length_eq_zero hl]; simp [num]
    | succ k ih =>
      intro l hl hD
      rcases List.eq_nil_or_concat l with rfl | ⟨t, c, rfl⟩
      · simp at hl
      · have h1 := ih t (by simpa using hl) (fun x hx => hD x (by simp [hx]))
        have h2 := D_range (hD c (by simp))
        rw [List.concat_eq_append, num_snoc]
        have h3 : (16 : Int) ^ (k + 1) = 16 * 16 ^ k := by rw [Int.pow_succ]; omega
        omega
  have h := key l.length l rfl hD
  have h2 : (16 : Int) ^ l.length ≤ 16777216 := by
    rcases (show l.length = 0 ∨ l.length = 1 ∨ l.length = 2 ∨ l.length = 3 ∨ l.length = 4 ∨ l.length = 5 ∨ l.length = 6 by omega) with e | e | e | e | e | e | e <;> rw [e] <;> decide
  omega

end Go.Proofs.YtilmmnobfompiaaDoor.U
