/- The spans of marks, a character's class by them, what the program's table and the reference's say, and that they say the same. Plain mathematics. -/
import Derived.KernelRfl
namespace Go.Proofs.YtfgpgmfajjakpaaDoor.U
set_option linter.unusedVariables false

/-- First, last, class of the first, step. -/
abbrev Row := Int × Int × Int × Int
def tab : List Row := [(768, 788, 230, 0), (789, 789, 232, 0), (790, 793, 220, 0), (794, 794, 232, 0), (795, 795, 216, 0), (796, 800, 220, 0), (801, 802, 202, 0), (803, 806, 220, 0), (807, 808, 202, 0), (809, 819, 220, 0), (820, 824, 1, 0), (825, 828, 220, 0), (829, 836, 230, 0), (837, 837, 240, 0), (838, 838, 230, 0), (839, 841, 220, 0), (842, 844, 230, 0), (845, 846, 220, 0), (848, 850, 230, 0), (851, 854, 220, 0), (855, 855, 230, 0), (859, 859, 230, 0), (860, 860, 233, 0), (861, 862, 234, 0), (863, 863, 233, 0), (864, 865, 234, 0), (866, 866, 233, 0), (867, 879, 230, 0), (1456, 1464, 10, 1), (1465, 1466, 19, 0), (1467, 1469, 20, 1), (1471, 1471, 23, 0), (1473, 1474, 24, 1), (1611, 1618, 27, 1), (1619, 1620, 230, 0), (1621, 1622, 220, 0), (1648, 1648, 35, 0), (12441, 12442, 8, 0), (64286, 64286, 26, 0), (65056, 65059, 230, 0)]
def rtab : List Row := [(768, 788, 230, 0), (829, 836, 230, 0), (838, 838, 230, 0), (842, 844, 230, 0), (848, 850, 230, 0), (855, 855, 230, 0), (859, 859, 230, 0), (867, 879, 230, 0), (65056, 65059, 230, 0), (789, 789, 232, 0), (794, 794, 232, 0), (795, 795, 216, 0), (801, 802, 202, 0), (807, 808, 202, 0), (790, 793, 220, 0), (796, 800, 220, 0), (803, 806, 220, 0), (809, 819, 220, 0), (825, 828, 220, 0), (839, 841, 220, 0), (845, 846, 220, 0), (851, 854, 220, 0), (820, 824, 1, 0), (837, 837, 240, 0), (860, 860, 233, 0), (863, 863, 233, 0), (866, 866, 233, 0), (861, 862, 234, 0), (864, 865, 234, 0), (1456, 1464, 10, 1), (1465, 1466, 19, 0), (1467, 1467, 20, 0), (1468, 1468, 21, 0), (1469, 1469, 22, 0), (1471, 1471, 23, 0), (1473, 1473, 24, 0), (1474, 1474, 25, 0), (64286, 64286, 26, 0), (1611, 1618, 27, 1), (1619, 1620, 230, 0), (1621, 1622, 220, 0), (1648, 1648, 35, 0), (12441, 12442, 8, 0)]
def inB (s : Row) (r : Int) : Bool := decide (s.1 ≤ r) && decide (r ≤ s.2.1)
def cval (s : Row) (r : Int) : Int := s.2.2.1 + (r - s.1) * s.2.2.2
def look (t : List Row) (r : Int) : Int := match t.find? (inB · r) with | some s => cval s r | none => 0
def cls (r : Int) : Int := look tab r
/-- The k numbers from a on. -/
def run (a : Int) : Nat → List Int
  | 0 => []
  | k + 1 => a :: run (a + 1) k
def len (s : Row) : Nat := (s.2.1 - s.1 + 1).toNat
def runs : List Row → List Int
  | [] => []
  | s :: t => run s.1 (len s) ++ runs t
def marks : List Int := runs tab

theorem inB_true {s : Row} {r : Int} : inB s r = true ↔ s.1 ≤ r ∧ r ≤ s.2.1 := by simp [inB]
theorem inB_false {s : Row} {r : Int} : inB s r = false ↔ ¬ (s.1 ≤ r ∧ r ≤ s.2.1) := by rw [← inB_true]; simp
theorem mem_run {k : Nat} {a r : Int} : r ∈ run a k ↔ a ≤ r ∧ r < a + k := by
  induction k generalizing a with
  | zero => simp [run]
  | succ k ih => simp only [run, List.mem_cons, ih]; omega
theorem mem_runs {t : List Row} {r : Int} : r ∈ runs t ↔ ∃ s ∈ t, inB s r = true := by
  induction t with
  | nil => simp [runs]
  | cons s t ih =>
    simp only [runs, List.mem_append, ih, mem_run, List.mem_cons, inB_true, len]
    constructor
    · rintro (h | ⟨u, hu, h⟩)
      · exact ⟨s, .inl rfl, by omega⟩
      · exact ⟨u, .inr hu, h⟩
    · rintro ⟨u, rfl | hu, h⟩
      · left; omega
      · exact .inr ⟨u, hu, h⟩

theorem look_none {t : List Row} {r : Int} (h : ∀ s ∈ t, inB s r = false) : look t r = 0 := by
  unfold look
  rw [List.find?_eq_none.2 (fun s hs => by simp [h s hs])]
theorem look_at {t : List Row} {r : Int} {i : Nat} {s : Row} (hi : t[i]? = some s) (hb : ∀ j u, j < i → t[j]? = some u → inB u r = false) (hs : inB s r = true) : look t r = cval s r := by
  have : t.find? (inB · r) = some s := by
    rw [List.find?_eq_some_iff_getElem]
    obtain ⟨hlt, he⟩ := List.getElem?_eq_some_iff.1 hi
    refine ⟨hs, i, hlt, he, fun j hj => ?_⟩
    have := hb j t[j] hj (by simp)
    simp [this]
  unfold look; rw [this]

/-- The two tables tell every mark alike. -/
theorem tabs_alike : (tab ++ rtab).all (fun s => (run s.1 (len s)).all fun r => look tab r == look rtab r) = true := by kernel_rfl
theorem rcls_is (r : Int) : look rtab r = cls r := by
  by_cases h : ∃ s ∈ tab ++ rtab, inB s r = true
  · obtain ⟨s, hs, hr⟩ := h
    have := List.all_eq_true.1 (List.all_eq_true.1 tabs_alike s hs) r (by rw [mem_run]; have := inB_true.1 hr; unfold len; omega)
    exact (eq_of_beq this).symm
  · have h1 : ∀ s ∈ tab ++ rtab, inB s r = false := fun s hs => by
      cases hb : inB s r with
      | false => rfl
      | true => exact absurd ⟨s, hs, hb⟩ h
    rw [look_none fun s hs => h1 s (List.mem_append_right _ hs)]
    exact (look_none fun s hs => h1 s (List.mem_append_left _ hs)).symm

/-- What is laid in the table: rows rise; bounds. -/
theorem tab_bounds : tab.all (fun s => decide (768 ≤ s.1) && decide (s.1 ≤ s.2.1) && decide (s.2.1 ≤ 65059) && decide (1 ≤ s.2.2.1) && decide (s.2.2.1 ≤ 240) && (s.2.2.2 == 0 || s.2.2.2 == 1)) = true := by kernel_rfl
theorem tab_row {i : Nat} {s : Row} (h : tab[i]? = some s) : 768 ≤ s.1 ∧ s.1 ≤ s.2.1 ∧ s.2.1 ≤ 65059 ∧ 1 ≤ s.2.2.1 ∧ s.2.2.1 ≤ 240 ∧ (s.2.2.2 = 0 ∨ s.2.2.2 = 1) := by
  have := List.all_eq_true.1 tab_bounds s (List.mem_of_getElem? h)
  simpa [and_assoc] using this
theorem rtab_bounds : rtab.all (fun s => decide (768 ≤ s.1) && decide (s.1 ≤ s.2.1) && decide (s.2.1 ≤ 65059) && decide (1 ≤ s.2.2.1) && decide (s.2.2.1 ≤ 240) && (s.2.2.2 == 0 || s.2.2.2 == 1)) = true := by kernel_rfl
theorem rtab_row {i : Nat} {s : Row} (h : rtab[i]? = some s) : 768 ≤ s.1 ∧ s.1 ≤ s.2.1 ∧ s.2.1 ≤ 65059 ∧ 1 ≤ s.2.2.1 ∧ s.2.2.1 ≤ 240 ∧ (s.2.2.2 = 0 ∨ s.2.2.2 = 1) := by
  have := List.all_eq_true.1 rtab_bounds s (List.mem_of_getElem? h)
  simpa [and_assoc] using this
theorem tab_len : tab.length = 40 := rfl
theorem rtab_len : rtab.length = 43 := rfl
theorem tab_at {i : Nat} (h : i < 40) : ∃ s, tab[i]? = some s := ⟨tab[i]'(by rw [tab_len]; exact h), by simp⟩
theorem rtab_at {i : Nat} (h : i < 43) : ∃ s, rtab[i]? = some s := ⟨rtab[i]'(by rw [rtab_len]; exact h), by simp⟩

/-- Rows one behind the other. -/
def rising : List Row → Bool
  | [] => true
  | s :: t => t.all (fun u => decide (s.2.1 < u.1)) && rising t
theorem tab_rising : rising tab = true := by kernel_rfl
theorem rising_lt : ∀ (t : List Row), rising t = true → ∀ (i j : Nat) (s u : Row), t[i]? = some s → t[j]? = some u → i < j → s.2.1 < u.1
  | [], _, i, j, s, u, hi, _, _ => by simp at hi
  | x :: t, h, 0, j + 1, s, u, hi, hj, _ => by
    simp only [rising, Bool.and_eq_true, List.all_eq_true] at h
    simp at hi hj
    subst hi
    simpa using h.1 u (List.mem_of_getElem? hj)
  | x :: t, h, i + 1, j + 1, s, u, hi, hj, hij => by
    simp only [rising, Bool.and_eq_true] at h
    exact rising_lt t h.2 i j s u (by simpa using hi) (by simpa using hj) (by omega)
theorem tab_lt {i j : Nat} {s u : Row} (hi : tab[i]? = some s) (hj : tab[j]? = some u) (h : i < j) : s.2.1 < u.1 := rising_lt tab tab_rising i j s u hi hj h

/-- Is it at most this row's last? -/
def upTo (r : Int) (i : Nat) : Bool := match tab[i]? with | some s => decide (r ≤ s.2.1) | none => true
theorem upTo_is {r : Int} {i : Nat} {s : Row} (h : tab[i]? = some s) : upTo r i = decide (r ≤ s.2.1) := by unfold upTo; rw [h]
theorem upTo_mono {r : Int} {a b : Nat} (hab : a ≤ b) (hb : b < 40) (h : upTo r a = true) : upTo r b = true := by
  rcases Nat.lt_or_eq_of_le hab with hlt | rfl
  · obtain ⟨s, hs⟩ := tab_at (i := a) (by omega)
    obtain ⟨u, hu⟩ := tab_at hb
    have h1 := tab_lt hs hu hlt
    have h2 := tab_row hu
    rw [upTo_is hs] at h
    rw [upTo_is hu]
    simp at h ⊢
    omega
  · exact h
/-- What the search by halves finds. -/
theorem cls_past {r : Int} (h : ∀ t, t < 40 → upTo r t = false) : cls r = 0 := by
  refine look_none fun s hs => ?_
  obtain ⟨i, hi⟩ := List.getElem?_of_mem hs
  have := h i (by rw [← tab_len]; exact (List.getElem?_eq_some_iff.1 hi).1)
  rw [upTo_is hi] at this
  rw [inB_false]
  simp at this
  omega
theorem cls_ahead {r : Int} {i : Nat} {s : Row} (hi : tab[i]? = some s) (h : ∀ t, t < i → upTo r t = false) (hlt : r < s.1) : cls r = 0 := by
  refine look_none fun u hu => ?_
  obtain ⟨j, hj⟩ := List.getElem?_of_mem hu
  rw [inB_false]
  rcases Nat.lt_trichotomy j i with hji | rfl | hij
  · have := h j hji
    rw [upTo_is hj] at this
    simp at this
    omega
  · obtain rfl := Option.some.inj (hi.symm.trans hj)
    omega
  · have h1 := tab_lt hi hj hij
    have h2 := tab_row hi
    omega
theorem cls_in {r : Int} {i : Nat} {s : Row} (hi : tab[i]? = some s) (h : ∀ t, t < i → upTo r t = false) (hu : upTo r i = true) (hge : ¬ r < s.1) : cls r = cval s r := by
  refine look_at hi (fun j u hj hju => ?_) ?_
  · have := h j hj
    rw [upTo_is hju] at this
    rw [inB_false]
    simp at this
    omega
  · rw [upTo_is hi] at hu
    rw [inB_true]
    simp at hu
    omega

/-- Marks, and no others, have a class above 0. -/
theorem marks_pos : marks.all (fun r => decide (0 < cls r) && decide (cls r ≤ 240)) = true := by kernel_rfl
theorem mem_marks {r : Int} : r ∈ marks ↔ 0 < cls r := by
  constructor
  · intro h
    have := List.all_eq_true.1 marks_pos r h
    simp at this
    exact this.1
  · intro h
    refine mem_runs.2 (Classical.byContradiction fun hn => ?_)
    have : cls r = 0 := look_none fun s hs => by
      cases hb : inB s r with
      | false => rfl
      | true => exact absurd ⟨s, hs, hb⟩ hn
    omega
theorem cls_range (r : Int) : 0 ≤ cls r ∧ cls r ≤ 240 ∧ (cls r = 0 ∨ 768 ≤ r ∧ r ≤ 65059) := by
  by_cases h : r ∈ marks
  · have := List.all_eq_true.1 marks_pos r h
    simp at this
    obtain ⟨s, hs, hr⟩ := mem_runs.1 h
    obtain ⟨i, hi⟩ := List.getElem?_of_mem hs
    have h1 := tab_row hi
    have h2 := inB_true.1 hr
    omega
  · have h0 : ¬ 0 < cls r := fun hp => h (mem_marks.2 hp)
    have : cls r = 0 := look_none fun s hs => by
      cases hb : inB s r with
      | false => rfl
      | true => exact absurd (mem_runs.2 ⟨s, hs, hb⟩) h
    omega
end Go.Proofs.YtfgpgmfajjakpaaDoor.U
