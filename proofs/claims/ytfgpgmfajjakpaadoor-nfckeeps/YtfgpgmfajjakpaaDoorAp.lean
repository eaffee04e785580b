/- What a character is split into, and all that comes of that; syllables and their parts. Plain mathematics. -/
import Derived.Test.YtfgpgmfajjakpaaDoorPair
import Derived.Test.YtfgpgmfajjakpaaDoorOrd
namespace Go.Proofs.YtfgpgmfajjakpaaDoor.U
set_option linter.unusedVariables false

/-- A syllable's parts. -/
def parts (r : Int) : List Int :=
  if 44032 ≤ r ∧ r < 55204 then
    if (r - 44032) % 28 = 0 then [4352 + (r - 44032) / 588, 4449 + (r - 44032) % 588 / 28]
    else [4352 + (r - 44032) / 588, 4449 + (r - 44032) % 588 / 28, 4519 + (r - 44032) % 28]
  else []
theorem parts_no {r : Int} (h : r < 44032 ∨ 55204 ≤ r) : parts r = [] := by
  unfold parts; rw [if_neg (by omega)]
theorem parts_two {r : Int} (h0 : 44032 ≤ r) (h1 : r < 55204) (h : (r - 44032) % 28 = 0) : parts r = [4352 + (r - 44032) / 588, 4449 + (r - 44032) % 588 / 28] := by
  unfold parts; rw [if_pos ⟨h0, h1⟩, if_pos h]
theorem parts_three {r : Int} (h0 : 44032 ≤ r) (h1 : r < 55204) (h : 0 < (r - 44032) % 28) : parts r = [4352 + (r - 44032) / 588, 4449 + (r - 44032) % 588 / 28, 4519 + (r - 44032) % 28] := by
  unfold parts; rw [if_pos ⟨h0, h1⟩, if_neg (by omega)]
theorem parts_len (r : Int) : (parts r).length ≤ 3 ∧ (0 < (parts r).length ↔ (44032 ≤ r ∧ r < 55204)) := by
  by_cases h0 : 44032 ≤ r ∧ r < 55204
  · obtain ⟨h0, h1⟩ := h0
    by_cases ht : (r - 44032) % 28 = 0
    · rw [parts_two h0 h1 ht]; simp; omega
    · rw [parts_three h0 h1 (by omega)]; simp; omega
  · rw [parts_no (by omega)]; simp; omega
theorem parts_mem {r p : Int} (h : p ∈ parts r) : 4352 ≤ p ∧ p ≤ 4546 ∧ 44032 ≤ r ∧ r < 55204 := by
  by_cases h0 : 44032 ≤ r ∧ r < 55204
  · obtain ⟨h0, h1⟩ := h0
    by_cases ht : (r - 44032) % 28 = 0
    · rw [parts_two h0 h1 ht] at h
      simp at h
      omega
    · rw [parts_three h0 h1 (by omega)] at h
      simp at h
      omega
  · rw [parts_no (by omega)] at h; simp at h

/-- What a character is split into, once; none if it is not. -/
def pts (c : Int) : List Int := match tabS.find? (fun t => t.1 == c) with
  | some t => if t.2.2 = 0 then [t.2.1] else [t.2.1, t.2.2]
  | none => parts c
theorem find_mem {c : Int} {t : Row3} (ht : t ∈ tabS) (hc : t.1 = c) : ∃ u ∈ tabS, u.1 = c ∧ tabS.find? (fun t => t.1 == c) = some u := by
  cases h : tabS.find? (fun t => t.1 == c) with
  | none => exact absurd (List.find?_eq_none.1 h t ht) (by simp [hc])
  | some u => exact ⟨u, List.mem_of_find?_eq_some h, by simpa using List.find?_some h, rfl⟩
theorem key_one {t u : Row3} (ht : t ∈ tabS) (hu : u ∈ tabS) (h : t.1 = u.1) : t = u := by
  obtain ⟨i, hi⟩ := List.getElem?_of_mem ht
  obtain ⟨j, hj⟩ := List.getElem?_of_mem hu
  have := up_one upS (i := i) (j := j) (a := t.1) (by rw [List.getElem?_map, hi]; rfl) (by rw [List.getElem?_map, hj, h]; rfl)
  subst this
  exact Option.some.inj (hi.symm.trans hj)
/-- What Split answers says what the parts are. -/
theorem spl_pts {c a b n : Int} (h : Spl c a b n) : (n = 1 ∧ pts c = [a]) ∨ (n = 2 ∧ pts c = [a, b]) ∨ (n = 0 ∧ pts c = parts c) := by
  rcases h with ⟨t, ht, rfl, rfl, rfl, hn⟩ | ⟨h, rfl, rfl, rfl⟩
  · obtain ⟨u, hu, he, hf⟩ := find_mem ht rfl
    obtain rfl := key_one hu ht he
    unfold pts
    rw [hf]
    dsimp only
    by_cases hb : u.2.2 = 0
    · rw [if_pos hb] at hn ⊢
      exact .inl ⟨hn, rfl⟩
    · rw [if_neg hb] at hn ⊢
      exact .inr (.inl ⟨hn, rfl⟩)
  · right; right
    refine ⟨rfl, ?_⟩
    unfold pts
    rw [List.find?_eq_none.2 fun t ht => by simpa using h t ht]
theorem pts_key {t : Row3} (ht : t ∈ tabS) : pts t.1 ≠ [] := by
  obtain ⟨u, hu, he, hf⟩ := find_mem ht rfl
  unfold pts
  rw [hf]
  dsimp only
  split <;> simp

/-! What the kernel checks of the table. -/
/-- The second ones. -/
def secs : List Int := [768, 769, 770, 771, 772, 774, 775, 776, 777, 778, 779, 780, 795, 803, 807, 808, 817, 834, 837, 787, 788, 1619, 1620, 1621, 12441, 12442, 1463, 1464]
/-- First ones: those that are split again; those that are not. -/
def mids : List Int := [194, 196, 197, 202, 212, 213, 214, 220, 226, 228, 234, 244, 245, 246, 252, 258, 259, 274, 275, 332, 333, 416, 417, 431, 432, 940, 942, 970, 971, 974, 7840, 7841, 7864, 7865, 7884, 7885, 8118, 8134, 8182]
def ends : List Int := [59, 65, 66, 67, 68, 69, 70, 71, 72, 73, 74, 75, 76, 77, 78, 79, 80, 82, 83, 84, 85, 86, 87, 88, 89, 90, 97, 98, 99, 100, 101, 102, 103, 104, 105, 106, 107, 108, 109, 110, 111, 112, 114, 115, 116, 117, 118, 119, 120, 121, 122, 183, 198, 216, 230, 248, 439, 658, 697, 768, 769, 776, 787, 913, 917, 919, 921, 927, 933, 937, 945, 949, 951, 953, 959, 961, 965, 969, 1030, 1040, 1043, 1045, 1046, 1047, 1048, 1050, 1054, 1059, 1063, 1067, 1069, 1072, 1075, 1077, 1078, 1079, 1080, 1082, 1086, 1091, 1095, 1099, 1101, 1110, 1488, 1575, 1608, 1610, 12363, 12365, 12367, 12369, 12371, 12373, 12375, 12377, 12379, 12381, 12383, 12385, 12388, 12390, 12392, 12399, 12402, 12405, 12408, 12411, 12454, 12459, 12461, 12463, 12465, 12467, 12469, 12471, 12473, 12475, 12477, 12479, 12481, 12484, 12486, 12488, 12495, 12498, 12501, 12504, 12507]
def lineA (t : Row3) : Bool := (t.2.2 == 0 || secs.contains t.2.2) && (ends.contains t.2.1 || (mids.contains t.2.1 && !mids.contains t.1)) && !(decide (4352 ≤ t.1) && decide (t.1 ≤ 4546))
theorem linesA : tabS.all lineA = true := by kernel_rfl
theorem secs_free : (secs ++ ends).all (fun s => (tabS.all fun t => !(t.1 == s)) && decide (s < 44032)) = true := by kernel_rfl
theorem lineA_true {t : Row3} (ht : t ∈ tabS) : (t.2.2 = 0 ∨ t.2.2 ∈ secs) ∧ (t.2.1 ∈ ends ∨ (t.2.1 ∈ mids ∧ ¬ t.1 ∈ mids)) ∧ (t.1 < 4352 ∨ 4546 < t.1) := by
  have := List.all_eq_true.1 linesA t ht
  simpa [lineA, and_assoc] using this
theorem pts_none {c : Int} (h : ∀ t ∈ tabS, t.1 ≠ c) : pts c = parts c := by
  unfold pts
  rw [List.find?_eq_none.2 fun t ht => by simpa using h t ht]
theorem sec_free {s : Int} (h : s ∈ secs ++ ends) : pts s = [] := by
  have := List.all_eq_true.1 secs_free s h
  rw [Bool.and_eq_true, List.all_eq_true] at this
  rw [pts_none fun t ht e => by have := this.1 t ht; simp [e] at this, parts_no]
  left
  simpa using this.2
theorem part_free {p : Int} (h : 4352 ≤ p ∧ p ≤ 4546) : pts p = [] := by
  rw [pts_none fun t ht e => by have := (lineA_true ht).2.2; omega, parts_no (by omega)]

/-- How far a character is from its end. -/
def mu (c : Int) : Nat := if pts c = [] then 0 else if c ∈ mids then 1 else 2
theorem mu_free {c : Int} (h : pts c = []) : mu c = 0 := by unfold mu; rw [if_pos h]
theorem mu_not {c : Int} (h : pts c ≠ []) : ∃ m, mu c = m + 1 := by
  unfold mu; rw [if_neg h]
  split
  · exact ⟨0, rfl⟩
  · exact ⟨1, rfl⟩
theorem mu_two {c : Int} (h : pts c ≠ []) (hm : ¬ c ∈ mids) : mu c = 2 := by unfold mu; rw [if_neg h, if_neg hm]
theorem mu_mid {c : Int} (hm : c ∈ mids) : mu c ≤ 1 := by unfold mu; rw [if_pos hm]; split <;> omega
theorem mu_le (c : Int) : mu c ≤ 2 := by unfold mu; split <;> (try split) <;> omega
/-- Three ways: a line of the table, a syllable, or not split. -/
theorem pts_ways (c : Int) : (∃ t ∈ tabS, t.1 = c ∧ ((t.2.2 = 0 ∧ pts c = [t.2.1]) ∨ (t.2.2 ∈ secs ∧ pts c = [t.2.1, t.2.2]))) ∨ (pts c = parts c ∧ 44032 ≤ c ∧ c < 55204) ∨ (pts c = [] ∧ parts c = []) := by
  by_cases h : ∃ t ∈ tabS, t.1 = c
  · obtain ⟨t, ht, rfl⟩ := h
    left
    refine ⟨t, ht, rfl, ?_⟩
    obtain ⟨u, hu, he, hf⟩ := find_mem ht rfl
    obtain rfl := key_one hu ht he
    have hl := lineA_true ht
    unfold pts
    rw [hf]
    dsimp only
    by_cases hb : u.2.2 = 0
    · rw [if_pos hb]; exact .inl ⟨hb, rfl⟩
    · rw [if_neg hb]; exact .inr ⟨hl.1.resolve_left hb, rfl⟩
  · have h1 := pts_none fun t ht e => h ⟨t, ht, e⟩
    right
    by_cases h2 : 44032 ≤ c ∧ c < 55204
    · exact .inl ⟨h1, h2⟩
    · rw [h1, parts_no (by omega)]; exact .inr ⟨rfl, rfl⟩
theorem mu_first {t : Row3} (ht : t ∈ tabS) : mu t.2.1 < mu t.1 := by
  have hne := pts_key ht
  obtain ⟨m, hm⟩ := mu_not hne
  rcases (lineA_true ht).2.1 with h | ⟨h, h'⟩
  · rw [mu_free (sec_free (List.mem_append_right _ h))]; omega
  · have := mu_mid h
    rw [mu_two hne h']; omega
theorem mids_small : mids.all (fun m => decide (m < 44032)) = true := by kernel_rfl
theorem syl_not {c : Int} (h : 44032 ≤ c) : ¬ c ∈ mids := fun hm => by
  have := List.all_eq_true.1 mids_small c hm
  simp at this
  omega
theorem mu_lt {c p : Int} (h : p ∈ pts c) : mu p < mu c := by
  have hne : pts c ≠ [] := fun e => by rw [e] at h; simp at h
  obtain ⟨m, hm⟩ := mu_not hne
  rcases pts_ways c with ⟨t, ht, rfl, ⟨_, e⟩ | ⟨hs, e⟩⟩ | ⟨e, h1, h2⟩ | ⟨e, _⟩
  · rw [e] at h
    simp at h
    subst h
    exact mu_first ht
  · rw [e] at h
    simp at h
    rcases h with rfl | rfl
    · exact mu_first ht
    · rw [mu_free (sec_free (List.mem_append_left _ hs))]; omega
  · rw [e] at h
    have := parts_mem h
    rw [mu_free (part_free (by omega))]; omega
  · exact absurd e hne

/-- All that comes of a character. -/
def apN : Nat → Int → List Int
  | 0, c => [c]
  | n + 1, c => if pts c = [] then [c] else (pts c).flatMap (apN n)
def ap (c : Int) : List Int := apN (mu c) c
theorem apN_free {c : Int} (h : pts c = []) : ∀ n, apN n c = [c]
  | 0 => rfl
  | n + 1 => by simp only [apN]; rw [if_pos h]
theorem flat_congr {l : List Int} {f g : Int → List Int} (h : ∀ p ∈ l, f p = g p) : l.flatMap f = l.flatMap g := by
  unfold List.flatMap
  rw [List.map_congr_left h]
theorem apN_ge : ∀ (k : Nat) (c : Int), mu c ≤ k → apN k c = ap c := by
  intro k
  induction k using Nat.strongRecOn with
  | _ k ih =>
    intro c h
    by_cases hp : pts c = []
    · unfold ap
      rw [apN_free hp, apN_free hp]
    · obtain ⟨m, hm⟩ := mu_not hp
      obtain ⟨k', rfl⟩ : ∃ k', k = k' + 1 := ⟨k - 1, by omega⟩
      unfold ap
      rw [hm]
      simp only [apN]
      rw [if_neg hp, if_neg hp]
      refine flat_congr fun q hq => ?_
      have h1 := mu_lt hq
      rw [ih k' (by omega) q (by omega)]
      rcases Nat.lt_or_eq_of_le (show m + 1 ≤ k' + 1 by omega) with hlt | he
      · rw [ih m (by omega) q (by omega)]
      · rw [show m = k' by omega, ih k' (by omega) q (by omega)]
theorem ap_free {c : Int} (h : pts c = []) : ap c = [c] := apN_free h _
theorem ap_split {c : Int} (h : pts c ≠ []) : ap c = (pts c).flatMap ap := by
  obtain ⟨m, hm⟩ := mu_not h
  have e : ap c = apN (m + 1) c := by unfold ap; rw [hm]
  rw [e]
  simp only [apN]
  rw [if_neg h]
  exact flat_congr fun p hp => apN_ge m p (by have := mu_lt hp; omega)
/-- Nothing that is split is left. -/
theorem ap_end (c : Int) : ∀ x ∈ ap c, pts x = [] := by
  generalize hn : mu c = n
  induction n using Nat.strongRecOn generalizing c with
  | _ n ih =>
    intro x hx
    by_cases h : pts c = []
    · rw [ap_free h] at hx
      simp at hx
      rw [hx, h]
    · rw [ap_split h] at hx
      obtain ⟨p, hp, hx⟩ := List.mem_flatMap.1 hx
      exact ih (mu p) (by have := mu_lt hp; omega) p rfl x hx
theorem ap_pos (c : Int) : 1 ≤ (ap c).length := by
  generalize hn : mu c = n
  induction n using Nat.strongRecOn generalizing c with
  | _ n ih =>
    by_cases h : pts c = []
    · rw [ap_free h]; simp
    · rw [ap_split h]
      obtain ⟨p, l, hl⟩ : ∃ p l, pts c = p :: l := by
        cases hq : pts c with
        | nil => exact absurd hq h
        | cons p l => exact ⟨p, l, rfl⟩
      have := ih (mu p) (by have := mu_lt (c := c) (p := p) (by rw [hl]; simp); omega) p rfl
      rw [hl, List.flatMap_cons, List.length_append]
      omega
theorem ap_len (c : Int) : (ap c).length ≤ mu c + 1 := by
  generalize hn : mu c = n
  induction n using Nat.strongRecOn generalizing c with
  | _ n ih =>
    by_cases h : pts c = []
    · rw [ap_free h]; simp
    · rcases pts_ways c with ⟨t, ht, rfl, ⟨_, e⟩ | ⟨hs, e⟩⟩ | ⟨e, h1, h2⟩ | ⟨e, _⟩
      · have h1 := mu_first ht
        have := ih (mu t.2.1) (by omega) t.2.1 rfl
        rw [ap_split h, e]
        simp
        omega
      · have h1 := mu_first ht
        have := ih (mu t.2.1) (by omega) t.2.1 rfl
        rw [ap_split h, e]
        simp [ap_free (sec_free (List.mem_append_left _ hs))]
        omega
      · have h5 := mu_two h (syl_not h1)
        rw [ap_split h, e]
        have h3 := (parts_len c).1
        have h4 : (parts c).flatMap ap = parts c := by
          rw [flat_congr (g := fun p => [p]) fun p hp => ap_free (part_free (by have := parts_mem hp; omega))]
          simp
        rw [h4]
        omega
      · exact absurd e h
theorem ap_max (c : Int) : (ap c).length ≤ 3 := by
  have h := ap_len c
  have := mu_le c
  omega

/-! A text. -/
def apL (l : List Int) : List Int := l.flatMap ap
theorem apL_append (a b : List Int) : apL (a ++ b) = apL a ++ apL b := by simp [apL]
theorem apL_cons (c : Int) (l : List Int) : apL (c :: l) = ap c ++ apL l := by simp [apL]
theorem apL_nil : apL [] = [] := rfl
theorem apL_end {l : List Int} {x : Int} (h : x ∈ apL l) : pts x = [] := by
  obtain ⟨c, _, hx⟩ := List.mem_flatMap.1 h
  exact ap_end c x hx
theorem apL_free {l : List Int} (h : ∀ x ∈ l, pts x = []) : apL l = l := by
  induction l with
  | nil => rfl
  | cons a l ih => rw [apL_cons, ap_free (h a (by simp)), ih fun x hx => h x (by simp [hx])]; rfl
theorem apL_ge (l : List Int) : l.length ≤ (apL l).length := by
  induction l with
  | nil => simp [apL]
  | cons a l ih => rw [apL_cons, List.length_append, List.length_cons]; have := ap_pos a; omega
theorem apL_max (l : List Int) : (apL l).length ≤ 3 * l.length := by
  induction l with
  | nil => simp [apL]
  | cons a l ih => rw [apL_cons, List.length_append, List.length_cons]; have := ap_max a; omega
theorem apL_nonempty {l : List Int} (h : l ≠ []) : apL l ≠ [] := fun e => by
  have := apL_ge l
  rw [e] at this
  exact h (List.eq_nil_of_length_eq_zero (by simpa using this))

/-- The twelve that the reference splits. -/
def twelve : List (Int × Int × Int × Int) := [(832, 768, 0, 1), (833, 769, 0, 1), (835, 787, 0, 1), (836, 776, 769, 2), (884, 697, 0, 1), (894, 59, 0, 1), (903, 183, 0, 1), (8486, 937, 0, 1), (8490, 75, 0, 1), (8491, 197, 0, 1), (64302, 1488, 1463, 2), (64303, 1488, 1464, 2)]
theorem twelve_in : twelve.all (fun t => tabS.any fun u => u.1 == t.1) = true := by kernel_rfl
theorem twelve_split {t : Int × Int × Int × Int} (h : t ∈ twelve) : pts t.1 ≠ [] := by
  have := List.all_eq_true.1 twelve_in t h
  obtain ⟨u, hu, he⟩ := List.any_eq_true.1 this
  have e : u.1 = t.1 := by simpa using he
  rw [← e]
  exact pts_key hu
/-- Marks that are split are among the twelve. -/
def lineM (t : Row3) : Bool := cls t.1 == 0 || twelve.any fun u => u.1 == t.1
theorem linesM : tabS.all lineM = true := by kernel_rfl
theorem mark_free {c : Int} (h : 0 < cls c) (hn : ∀ t ∈ twelve, t.1 ≠ c) : pts c = [] := by
  rcases pts_ways c with ⟨t, ht, rfl, _⟩ | ⟨e, h1, h2⟩ | ⟨e, _⟩
  · exfalso
    have := List.all_eq_true.1 linesM t ht
    simp only [lineM, Bool.or_eq_true] at this
    rcases this with h0 | h0
    · have : cls t.1 = 0 := by simpa using h0
      omega
    · obtain ⟨u, hu, he⟩ := List.any_eq_true.1 h0
      exact hn u hu (by simpa using he)
  · exfalso
    obtain ⟨s, hs, hr⟩ := mem_runs.1 (mem_marks.2 h)
    exact absurd hr (by
      have h5 : tab.all (fun s => decide (s.2.1 < 44032) || decide (55204 ≤ s.1)) = true := by kernel_rfl
      have h6 := List.all_eq_true.1 h5 s hs
      rw [inB_true]
      simp at h6
      omega)
  · exact e
end Go.Proofs.YtfgpgmfajjakpaaDoor.U
