/- The tables of pairs, what they say of splitting and joining, hexadecimal digits, the reference's spans of marks. Plain mathematics. -/
import Derived.Test.YtkdcmmaocbmedaaDoorTab
namespace Go.Proofs.YtkdcmmaocbmedaaDoor.U
set_option linter.unusedVariables false

theorem inB_true {s : Row} {r : Int} : inB s r = true ↔ s.1 ≤ r ∧ r ≤ s.2.1 := by simp [inB]
theorem inB_false {s : Row} {r : Int} : inB s r = false ↔ ¬ (s.1 ≤ r ∧ r ≤ s.2.1) := by rw [← inB_true]; simp
theorem look_none {t : List Row} {r : Int} (h : ∀ s ∈ t, inB s r = false) : look t r = 0 := by
  unfold look
  rw [List.find?_eq_none.2 (fun s hs => by simp [h s hs])]
theorem look_at {t : List Row} {r : Int} {i : Nat} {s : Row} (hi : t[i]? = some s) (hb : ∀ j u, j < i → t[j]? = some u → inB u r = false) (hs : inB s r = true) : look t r = cval s r := by
  have : t.find? (inB · r) = some s := by
    rw [List.find?_eq_some_iff_getElem]
    obtain ⟨hlt, he⟩ := List.getElem?_eq_some_iff.1 hi
    refine ⟨hs, i, hlt, he, fun j hj => ?_⟩
    have := hb j t[j] hj (by simp)
    simp [this]
  unfold look; rw [this]
theorem rtab_bounds : rtab.all (fun s => decide (768 ≤ s.1) && decide (s.1 ≤ s.2.1) && decide (s.2.1 ≤ 65059) && decide (1 ≤ s.2.2.1) && decide (s.2.2.1 ≤ 240) && (s.2.2.2 == 0 || s.2.2.2 == 1)) = true := by kernel_rfl
theorem rtab_row {i : Nat} {s : Row} (h : rtab[i]? = some s) : 768 ≤ s.1 ∧ s.1 ≤ s.2.1 ∧ s.2.1 ≤ 65059 ∧ 1 ≤ s.2.2.1 ∧ s.2.2.1 ≤ 240 ∧ (s.2.2.2 = 0 ∨ s.2.2.2 = 1) := by
  have := List.all_eq_true.1 rtab_bounds s (List.mem_of_getElem? h)
  simpa [and_assoc] using this
theorem rtab_len : rtab.length = 43 := rfl
theorem rtab_at {i : Nat} (h : i < 43) : ∃ s, rtab[i]? = some s := ⟨rtab[i]'(by rw [rtab_len]; exact h), by simp⟩

/-! Hexadecimal digits. -/
def isD (c : Int) : Bool := decide (48 ≤ c) && decide (c ≤ 57) || decide (65 ≤ c) && decide (c ≤ 70)
def val (c : Int) : Int := if c < 58 then c - 48 else c - 55
theorem isD_true {c : Int} : isD c = true ↔ (48 ≤ c ∧ c ≤ 57) ∨ (65 ≤ c ∧ c ≤ 70) := by simp [isD]
def num (l : List Int) : Int := l.foldl (fun a c => 16 * a + val c) 0
theorem num_snoc (l : List Int) (c : Int) : num (l ++ [c]) = 16 * num l + val c := by simp [num]
theorem D_range {c : Int} (h : isD c = true) : 0 ≤ val c ∧ val c < 16 := by
  rw [isD_true] at h; unfold val; split <;> omega
theorem num_range {l : List Int} (hD : ∀ c ∈ l, isD c = true) (h6 : l.length ≤ 6) : 0 ≤ num l ∧ num l < 16777216 := by
  have key : ∀ k (l : List Int), l.length = k → (∀ c ∈ l, isD c = true) → 0 ≤ num l ∧ num l < 16 ^ k := by
    intro k
    induction k with
    | zero => intro l hl _; rw [List.eq_nil_of_length_eq_zero hl]; simp [num]
    | succ k ih =>
      intro l hl hD
      rcases List.eq_nil_or_concat l with rfl | ⟨t, c, rfl⟩
      · simp at hl
      · have h1 := ih t (by simpa using hl) (fun x hx => hD x (by simp [hx]))
        have h2 := D_range (hD c (by simp))
        rw [List.concat_eq_append, num_snoc]
        have h3 : (16 : Int) ^ (k + 1) = 16 * 16 ^ k := by rw [Int.pow_succ]; omega
        omega
  have h := key l.length l rfl hD
  have h2 : (16 : Int) ^ l.length ≤ 16777216 := by
    rcases (show l.length = 0 ∨ l.length = 1 ∨ l.length = 2 ∨ l.length = 3 ∨ l.length = 4 ∨ l.length = 5 ∨ l.length = 6 by omega) with e | e | e | e | e | e | e <;> rw [e] <;> decide
  omega

theorem up_tail {l : List Int} {x : Int} (h : up (x :: l) = true) : up l = true := by
  cases l with
  | nil => rfl
  | cons y t => simp only [up, Bool.and_eq_true] at h; exact h.2
theorem up_head : ∀ (l : List Int) (x : Int), up (x :: l) = true → ∀ y ∈ l, x < y
  | [], x, _, y, hy => by simp at hy
  | z :: l, x, h, y, hy => by
    simp only [up, Bool.and_eq_true, decide_eq_true_eq] at h
    rcases List.mem_cons.1 hy with rfl | hy
    · exact h.1
    · have := up_head l z h.2 y hy
      omega
theorem up_lt : ∀ (l : List Int), up l = true → ∀ (i j : Nat) (a b : Int), l[i]? = some a → l[j]? = some b → i < j → a < b
  | [], _, i, j, a, b, hi, _, _ => by simp at hi
  | x :: t, h, 0, j + 1, a, b, hi, hj, _ => by
    simp at hi hj
    subst hi
    exact up_head t x h b (List.mem_of_getElem? hj)
  | x :: t, h, i + 1, j + 1, a, b, hi, hj, hij => up_lt t (up_tail h) i j a b (by simpa using hi) (by simpa using hj) (by omega)
theorem up_one {l : List Int} (h : up l = true) {i j : Nat} {a : Int} (hi : l[i]? = some a) (hj : l[j]? = some a) : i = j := by
  rcases Nat.lt_trichotomy i j with hlt | he | hlt
  · have := up_lt l h i j a a hi hj hlt; omega
  · exact he
  · have := up_lt l h j i a a hj hi hlt; omega

theorem in16_true {t : Row3} : in16 t = true ↔ 0 ≤ t.1 ∧ t.1 < 65536 ∧ 0 ≤ t.2.1 ∧ t.2.1 < 65536 ∧ 0 ≤ t.2.2 ∧ t.2.2 < 65536 := by simp [in16, and_assoc]
/-- What Split answers; what Join answers. -/
def Spl (r a b n : Int) : Prop := (∃ t ∈ tabS, t.1 = r ∧ t.2.1 = a ∧ t.2.2 = b ∧ n = if b = 0 then 1 else 2) ∨ ((∀ t ∈ tabS, t.1 ≠ r) ∧ a = 0 ∧ b = 0 ∧ n = 0)
def Joi (a b r : Int) (ok : Bool) : Prop := (∃ t ∈ tabJ, t.2.1 = a ∧ t.2.2 = b ∧ t.1 = r ∧ ok = true) ∨ ((∀ t ∈ tabJ, ¬ (t.2.1 = a ∧ t.2.2 = b)) ∧ r = 0 ∧ ok = false)
theorem spl_any (r : Int) : ∃ a b n, Spl r a b n := by
  by_cases h : ∃ t ∈ tabS, t.1 = r
  · obtain ⟨t, ht, hr⟩ := h
    exact ⟨t.2.1, t.2.2, _, .inl ⟨t, ht, hr, rfl, rfl, rfl⟩⟩
  · exact ⟨0, 0, 0, .inr ⟨fun t ht hr => h ⟨t, ht, hr⟩, rfl, rfl, rfl⟩⟩
theorem joi_any (a b : Int) : ∃ r ok, Joi a b r ok := by
  by_cases h : ∃ t ∈ tabJ, t.2.1 = a ∧ t.2.2 = b
  · obtain ⟨t, ht, ha, hb⟩ := h
    exact ⟨t.1, true, .inl ⟨t, ht, ha, hb, rfl, rfl⟩⟩
  · exact ⟨0, false, .inr ⟨fun t ht hr => h ⟨t, ht, hr⟩, rfl, rfl⟩⟩

theorem eq3_true {t u : Row3} : eq3 t u = true ↔ t = u := by
  obtain ⟨a, b, c⟩ := t
  obtain ⟨d, e, f⟩ := u
  simp [eq3, and_assoc]
theorem split_back {r a b : Int} (h : Spl r a b 2) : 0 < cls b ∧ decide (0 < cls a) = (r == 836) ∧ Joi a b (if few r then 0 else r) (!few r) := by
  rcases h with ⟨t, ht, rfl, rfl, rfl, hn⟩ | ⟨_, _, _, h⟩
  · have hl := List.all_eq_true.1 linesS t ht
    unfold lineS at hl
    have hb : (t.2.2 == 0) = false := by
      cases hq : t.2.2 == 0 with
      | false => rfl
      | true => rw [eq_of_beq hq] at hn; simp at hn
    rw [hb, Bool.false_or, Bool.and_eq_true, Bool.and_eq_true] at hl
    obtain ⟨⟨h1, h2⟩, h3⟩ := hl
    refine ⟨of_decide_eq_true h1, eq_of_beq h2, ?_⟩
    cases hf : few t.1 with
    | true =>
      rw [hf, if_pos rfl] at h3
      refine .inr ⟨fun u hu => ?_, rfl, rfl⟩
      have := List.all_eq_true.1 h3 u hu
      rintro ⟨e1, e2⟩
      simp [e1, e2] at this
    | false =>
      rw [hf] at h3
      simp only [Bool.false_eq_true, if_false] at h3
      obtain ⟨u, hu, he⟩ := List.any_eq_true.1 h3
      obtain rfl := eq3_true.1 he
      exact .inl ⟨t, hu, rfl, rfl, rfl, rfl⟩
  · omega
theorem join_back {r s x : Int} (h : Joi r s x true) : Spl x r s 2 ∧ cls r = 0 ∧ 0 < cls s := by
  rcases h with ⟨t, ht, rfl, rfl, rfl, _⟩ | ⟨_, _, h⟩
  · have hl := List.all_eq_true.1 linesJ t ht
    simp only [lineJ, Bool.and_eq_true, Bool.not_eq_true', decide_eq_true_eq, List.any_eq_true] at hl
    obtain ⟨⟨⟨h0, h1⟩, h2⟩, u, hu, he⟩ := hl
    obtain rfl := eq3_true.1 he
    have hb : t.2.2 ≠ 0 := fun e => by rw [e] at h0; simp at h0
    exact ⟨.inl ⟨t, hu, rfl, rfl, rfl, by rw [if_neg hb]⟩, eq_of_beq h1, h2⟩
  · cases h
theorem spl_n {r a b n : Int} (h : Spl r a b n) : (n = 2 ∧ b ≠ 0) ∨ (n = 1 ∧ b = 0) ∨ (n = 0 ∧ a = 0 ∧ b = 0) := by
  rcases h with ⟨t, ht, _, _, _, hn⟩ | ⟨_, h1, h2, h3⟩
  · by_cases hb : b = 0
    · rw [if_pos hb] at hn; exact .inr (.inl ⟨hn, hb⟩)
    · rw [if_neg hb] at hn; exact .inl ⟨hn, hb⟩
  · exact .inr (.inr ⟨h3, h1, h2⟩)
theorem joi_no {a b r : Int} (h : Joi a b r false) : r = 0 := by
  rcases h with ⟨_, _, _, _, _, h⟩ | ⟨_, h, _⟩
  · cases h
  · exact h
theorem spl_233 : Spl 233 101 769 2 := .inl ⟨(233, 101, 769), by
  have h : tabS.any (eq3 (233, 101, 769)) = true := by kernel_rfl
  obtain ⟨u, hu, he⟩ := List.any_eq_true.1 h
  obtain rfl := eq3_true.1 he
  exact hu, rfl, rfl, rfl, rfl⟩
theorem joi_233 : Joi 101 769 233 true := .inl ⟨(233, 101, 769), by
  have h : tabJ.any (eq3 (233, 101, 769)) = true := by kernel_rfl
  obtain ⟨u, hu, he⟩ := List.any_eq_true.1 h
  obtain rfl := eq3_true.1 he
  exact hu, rfl, rfl, rfl, rfl⟩
/-- What is split is within Unicode; so are its parts. -/
theorem spl_fit {r a b n : Int} (h : Spl r a b n) : 0 ≤ a ∧ a < 65536 ∧ 0 ≤ b ∧ b < 65536 ∧ 0 ≤ n ∧ n ≤ 2 := by
  have hn := spl_n h
  rcases h with ⟨t, ht, _, rfl, rfl, _⟩ | ⟨_, h1, h2, h3⟩
  · have := in16_true.1 (List.all_eq_true.1 in16S t ht)
    omega
  · omega
theorem joi_fit {a b r : Int} {ok : Bool} (h : Joi a b r ok) : 0 ≤ r ∧ r < 65536 := by
  rcases h with ⟨t, ht, _, _, rfl, _⟩ | ⟨_, h1, _⟩
  · have := in16_true.1 (List.all_eq_true.1 in16J t ht)
    omega
  · omega

/-! Lines of a text: fifteen letters each, digits at three places. -/
def d4 (d : List Int) (v : Int) : Bool := d.length == 4 && d.all isD && num d == v
def okLine (l : List Int) (t : Row3) : Bool := l.length == 15 && d4 ((l.drop 1).take 4) t.1 && d4 ((l.drop 6).take 4) t.2.1 && d4 ((l.drop 11).take 4) t.2.2
def okL : List Int → List Row3 → Bool
  | l, [] => l.isEmpty
  | l, t :: rows => okLine (l.take 15) t && okL (l.drop 15) rows
theorem okL_len : ∀ (rows : List Row3) (l : List Int), okL l rows = true → l.length = rows.length * 15
  | [], l, h => by simp [okL] at h; simp [h]
  | t :: rows, l, h => by
    simp only [okL, Bool.and_eq_true] at h
    have h1 := okL_len rows _ h.2
    have h2 : (l.take 15).length = 15 := by
      have := h.1
      simp only [okLine, Bool.and_eq_true] at this
      exact eq_of_beq this.1.1.1
    simp only [List.length_drop, List.length_take, List.length_cons] at h1 h2 ⊢
    omega
theorem okL_at : ∀ (rows : List Row3) (l : List Int), okL l rows = true → ∀ (i : Nat) (t : Row3), rows[i]? = some t → okLine ((l.drop (i * 15)).take 15) t = true
  | [], l, h, i, t, hi => by simp at hi
  | u :: rows, l, h, 0, t, hi => by
    simp only [okL, Bool.and_eq_true] at h
    simp at hi
    subst hi
    simpa using h.1
  | u :: rows, l, h, i + 1, t, hi => by
    simp only [okL, Bool.and_eq_true] at h
    have := okL_at rows _ h.2 i t (by simpa using hi)
    rw [List.drop_drop] at this
    rw [show (i + 1) * 15 = 15 + i * 15 by omega]
    exact this
theorem d4_true {d : List Int} {v : Int} (h : d4 d v = true) : d.length = 4 ∧ (∀ c ∈ d, isD c = true) ∧ num d = v := by
  simp only [d4, Bool.and_eq_true, List.all_eq_true] at h
  exact ⟨eq_of_beq h.1.1, h.1.2, eq_of_beq h.2⟩
end Go.Proofs.YtkdcmmaocbmedaaDoor.U
