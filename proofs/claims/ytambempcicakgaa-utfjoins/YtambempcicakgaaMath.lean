/- Plain mathematics of UTF-8: which numbers are scalars, how many bytes each has, and which bytes; what it is for bytes to be those of scalars. No condition. -/
namespace Go.Proofs.Ytambempcicakgaa.U

def scB (r : Int) : Bool := decide (0 ≤ r) && decide (r < 1114112) && !(decide (55296 ≤ r) && decide (r < 57344))

theorem scB_true {r : Int} : scB r = true ↔ (0 ≤ r ∧ r < 1114112 ∧ (r < 55296 ∨ 57344 ≤ r)) := by
  unfold scB; simp; omega
theorem scB_false {r : Int} : scB r = false ↔ (r < 0 ∨ 1114112 ≤ r ∨ (55296 ≤ r ∧ r < 57344)) := by
  rw [← Bool.not_eq_true, scB_true]; omega

def ln (r : Int) : Nat := if scB r = true then (if r < 128 then 1 else if r < 2048 then 2 else if r < 65536 then 3 else 4) else 0

def hd (n : Int) : Int := if n = 2 then 192 else if n = 3 then 224 else if n = 4 then 240 else 0
theorem hd1 : hd 1 = 0 := by decide
theorem hd2 : hd 2 = 192 := by decide
theorem hd3 : hd 3 = 224 := by decide
theorem hd4 : hd 4 = 240 := by decide

def an (c : Int) : Nat := if c < 128 then 1 else if c < 192 then 0 else if c < 224 then 2 else if c < 240 then 3 else if c < 248 then 4 else 0

/-- A scalar's bytes. -/
def enc1 (r : Int) : List Int :=
  if ln r = 1 then [r] else if ln r = 2 then [192 + r / 64, 128 + r % 64] else if ln r = 3 then [224 + r / 4096, 128 + r / 64 % 64, 128 + r % 64]
  else if ln r = 4 then [240 + r / 262144, 128 + r / 4096 % 64, 128 + r / 64 % 64, 128 + r % 64] else []

theorem ln_none {r : Int} (h : scB r = false) : ln r = 0 := by unfold ln; simp [h]
theorem ln_one {r : Int} (h0 : 0 ≤ r) (h1 : r < 128) : ln r = 1 := by
  have : scB r = true := scB_true.2 (by omega)
  unfold ln; rw [if_pos this, if_pos h1]
theorem ln_two {r : Int} (h0 : 128 ≤ r) (h1 : r < 2048) : ln r = 2 := by
  have : scB r = true := scB_true.2 (by omega)
  unfold ln; rw [if_pos this, if_neg (by omega), if_pos h1]
theorem ln_three {r : Int} (hs : scB r = true) (h0 : 2048 ≤ r) (h1 : r < 65536) : ln r = 3 := by
  unfold ln; rw [if_pos hs, if_neg (by omega), if_neg (by omega), if_pos h1]
theorem ln_four {r : Int} (hs : scB r = true) (h0 : 65536 ≤ r) : ln r = 4 := by
  unfold ln; rw [if_pos hs, if_neg (by omega), if_neg (by omega), if_neg (by omega)]

theorem ln_cases (r : Int) : (scB r = false ∧ ln r = 0) ∨ (scB r = true ∧ 0 ≤ r ∧ r < 128 ∧ ln r = 1) ∨ (scB r = true ∧ 128 ≤ r ∧ r < 2048 ∧ ln r = 2) ∨
    (scB r = true ∧ 2048 ≤ r ∧ r < 65536 ∧ ln r = 3) ∨ (scB r = true ∧ 65536 ≤ r ∧ r < 1114112 ∧ ln r = 4) := by
  by_cases h : scB r = true
  · have h' := scB_true.1 h
    by_cases h1 : r < 128
    · exact .inr (.inl ⟨h, h'.1, h1, ln_one h'.1 h1⟩)
    · by_cases h2 : r < 2048
      · exact .inr (.inr (.inl ⟨h, by omega, h2, ln_two (by omega) h2⟩))
      · by_cases h3 : r < 65536
        · exact .inr (.inr (.inr (.inl ⟨h, by omega, h3, ln_three h (by omega) h3⟩)))
        · exact .inr (.inr (.inr (.inr ⟨h, by omega, h'.2.1, ln_four h (by omega)⟩)))
  · have h' : scB r = false := by simpa using h
    exact .inl ⟨h', ln_none h'⟩

theorem enc_1 {r : Int} (h : ln r = 1) : enc1 r = [r] := by unfold enc1; rw [if_pos h]
theorem enc_2 {r : Int} (h : ln r = 2) : enc1 r = [192 + r / 64, 128 + r % 64] := by unfold enc1; rw [if_neg (by omega), if_pos h]
theorem enc_3 {r : Int} (h : ln r = 3) : enc1 r = [224 + r / 4096, 128 + r / 64 % 64, 128 + r % 64] := by
  unfold enc1; rw [if_neg (by omega), if_neg (by omega), if_pos h]
theorem enc_4 {r : Int} (h : ln r = 4) : enc1 r = [240 + r / 262144, 128 + r / 4096 % 64, 128 + r / 64 % 64, 128 + r % 64] := by
  unfold enc1; rw [if_neg (by omega), if_neg (by omega), if_neg (by omega), if_pos h]
theorem enc_0 {r : Int} (h : ln r = 0) : enc1 r = [] := by
  unfold enc1; rw [if_neg (by omega), if_neg (by omega), if_neg (by omega), if_neg (by omega)]

/-- A scalar's bytes, by cases. -/
theorem enc_cases {r : Int} (h : scB r = true) : (0 ≤ r ∧ r < 128 ∧ ln r = 1 ∧ enc1 r = [r]) ∨ (128 ≤ r ∧ r < 2048 ∧ ln r = 2 ∧ enc1 r = [192 + r / 64, 128 + r % 64]) ∨
    (2048 ≤ r ∧ r < 65536 ∧ ln r = 3 ∧ enc1 r = [224 + r / 4096, 128 + r / 64 % 64, 128 + r % 64]) ∨
    (65536 ≤ r ∧ r < 1114112 ∧ ln r = 4 ∧ enc1 r = [240 + r / 262144, 128 + r / 4096 % 64, 128 + r / 64 % 64, 128 + r % 64]) := by
  rcases ln_cases r with ⟨h', _⟩ | ⟨_, a, b, c⟩ | ⟨_, a, b, c⟩ | ⟨_, a, b, c⟩ | ⟨_, a, b, c⟩
  · rw [h] at h'; cases h'
  · exact .inl ⟨a, b, c, enc_1 c⟩
  · exact .inr (.inl ⟨a, b, c, enc_2 c⟩)
  · exact .inr (.inr (.inl ⟨a, b, c, enc_3 c⟩))
  · exact .inr (.inr (.inr ⟨a, b, c, enc_4 c⟩))

theorem enc_length (r : Int) : (enc1 r).length = ln r := by
  rcases ln_cases r with ⟨_, c⟩ | ⟨_, _, _, c⟩ | ⟨_, _, _, c⟩ | ⟨_, _, _, c⟩ | ⟨_, _, _, c⟩
  · rw [enc_0 c, c]; rfl
  · rw [enc_1 c, c]; rfl
  · rw [enc_2 c, c]; rfl
  · rw [enc_3 c, c]; rfl
  · rw [enc_4 c, c]; rfl

theorem enc_bytes (r : Int) : ∀ x ∈ enc1 r, 0 ≤ x ∧ x < 256 := by
  rcases ln_cases r with ⟨_, c⟩ | ⟨_, _, _, c⟩ | ⟨_, _, _, c⟩ | ⟨_, _, _, c⟩ | ⟨_, _, _, c⟩
  · rw [enc_0 c]; simp
  · rw [enc_1 c]; intro x hx; simp at hx; omega
  · rw [enc_2 c]; intro x hx; simp at hx; omega
  · rw [enc_3 c]; intro x hx; simp at hx; omega
  · rw [enc_4 c]; intro x hx; simp at hx; omega

theorem ln_pos {r : Int} (h : scB r = true) : 1 ≤ ln r ∧ ln r ≤ 4 := by
  rcases enc_cases h with ⟨_, _, c, _⟩ | ⟨_, _, c, _⟩ | ⟨_, _, c, _⟩ | ⟨_, _, c, _⟩ <;> omega
theorem ln_le (r : Int) : ln r ≤ 4 := by
  rcases ln_cases r with ⟨_, c⟩ | ⟨_, _, _, c⟩ | ⟨_, _, _, c⟩ | ⟨_, _, _, c⟩ | ⟨_, _, _, c⟩ <;> omega
theorem sc_of_ln {r : Int} (h : ln r ≠ 0) : scB r = true := by
  rcases ln_cases r with ⟨_, c⟩ | ⟨c, _⟩ | ⟨c, _⟩ | ⟨c, _⟩ | ⟨c, _⟩
  · exact absurd c h
  all_goals exact c

/-- No scalar's bytes begin another one's. -/
theorem enc_inj {r s : Int} {t u : List Int} (hr : scB r = true) (hs : scB s = true) (h : enc1 r ++ t = enc1 s ++ u) : r = s ∧ t = u := by
  rcases enc_cases hr with ⟨a, b, _, e⟩ | ⟨a, b, _, e⟩ | ⟨a, b, _, e⟩ | ⟨a, b, _, e⟩ <;>
  rcases enc_cases hs with ⟨a', b', _, e'⟩ | ⟨a', b', _, e'⟩ | ⟨a', b', _, e'⟩ | ⟨a', b', _, e'⟩ <;>
  · rw [e, e'] at h
    simp only [List.cons_append, List.nil_append, List.cons.injEq] at h
    have q1 : r / 4096 = r / 64 / 64 := by omega
    have q2 : r / 262144 = r / 64 / 64 / 64 := by omega
    have q3 : s / 4096 = s / 64 / 64 := by omega
    have q4 : s / 262144 = s / 64 / 64 / 64 := by omega
    try rw [q1] at h
    try rw [q2] at h
    try rw [q3] at h
    try rw [q4] at h
    first
      | (exfalso; omega)
      | exact ⟨by omega, h.2⟩
      | exact ⟨by omega, h.2.2⟩
      | exact ⟨by omega, h.2.2.2⟩
      | exact ⟨by omega, h.2.2.2.2⟩

/-- The bytes l begin no scalar's. -/
def NoFirst (l : List Int) : Prop := ∀ r t, scB r = true → l ≠ enc1 r ++ t

/-- What is first in l: a scalar r of n bytes, or none (0 and 0). -/
def FirstOf (l : List Int) (r : Int) (n : Nat) : Prop := (scB r = true ∧ n = ln r ∧ ∃ t, l = enc1 r ++ t) ∨ (r = 0 ∧ n = 0 ∧ NoFirst l)

/-- The bytes of scalars, one behind the other. -/
def encAll : List Int → List Int
  | [] => []
  | r :: rs => enc1 r ++ encAll rs

def AllSc (l : List Int) : Prop := ∀ r ∈ l, scB r = true

theorem encAll_append (a b : List Int) : encAll (a ++ b) = encAll a ++ encAll b := by
  induction a with
  | nil => rfl
  | cons x a ih => simp [encAll, ih]

theorem encAll_snoc (a : List Int) (r : Int) : encAll (a ++ [r]) = encAll a ++ enc1 r := by
  rw [encAll_append]; simp [encAll]

theorem encAll_bytes (a : List Int) : ∀ x ∈ encAll a, 0 ≤ x ∧ x < 256 := by
  induction a with
  | nil => simp [encAll]
  | cons r a ih =>
    intro x hx
    simp only [encAll, List.mem_append] at hx
    rcases hx with hx | hx
    · exact enc_bytes r x hx
    · exact ih x hx

theorem encAll_length (a : List Int) : (encAll a).length ≤ 4 * a.length := by
  induction a with
  | nil => simp [encAll]
  | cons r a ih =>
    have := ln_le r
    simp only [encAll, List.length_append, List.length_cons, enc_length]
    omega

theorem encAll_ge {a : List Int} (h : AllSc a) : a.length ≤ (encAll a).length := by
  induction a with
  | nil => simp [encAll]
  | cons r a ih =>
    have := ln_pos (h r (by simp))
    have := ih (fun x hx => h x (by simp [hx]))
    simp only [encAll, List.length_append, List.length_cons, enc_length]
    omega

/-- What bytes l are decoded to: the scalars, or at which byte the first stands that begins none. -/
def Decoded (l out : List Int) (e : Int) (at_ : Nat) : Prop :=
  (e = 0 ∧ at_ = 0 ∧ AllSc out ∧ encAll out = l) ∨
  (e = 2 ∧ out = [] ∧ ∃ rs t, AllSc rs ∧ at_ = (encAll rs).length ∧ l = encAll rs ++ t ∧ t ≠ [] ∧ NoFirst t)

theorem encAll_nil {a : List Int} (h : AllSc a) (he : encAll a = []) : a = [] := by
  have := encAll_ge h
  rw [he] at this
  exact List.eq_nil_of_length_eq_zero (by simpa using this)

/-- Both prefixes of scalars' bytes: as far as neither goes on. -/
theorem two_heads {a b t u : List Int} (ha : AllSc a) (hb : AllSc b) (h : encAll a ++ t = encAll b ++ u) (ht : t = [] ∨ NoFirst t) (hu : u = [] ∨ NoFirst u) : a = b ∧ t = u := by
  induction a generalizing b with
  | nil =>
    cases b with
    | nil => exact ⟨rfl, by simpa [encAll] using h⟩
    | cons s b =>
      exfalso
      simp only [encAll, List.nil_append, List.append_assoc] at h
      rcases ht with ht | ht
      · have hl := congrArg List.length h
        have := (ln_pos (hb s (by simp))).1
        rw [ht] at hl
        simp only [List.length_nil, List.length_append, enc_length] at hl
        omega
      · exact ht s _ (hb s (by simp)) h
  | cons r a ih =>
    cases b with
    | nil =>
      exfalso
      simp only [encAll, List.nil_append, List.append_assoc] at h
      rcases hu with hu | hu
      · have hl := congrArg List.length h
        have := (ln_pos (ha r (by simp))).1
        rw [hu] at hl
        simp only [List.length_nil, List.length_append, enc_length] at hl
        omega
      · exact hu r _ (ha r (by simp)) h.symm
    | cons s b =>
      simp only [encAll, List.append_assoc] at h
      obtain ⟨rfl, h2⟩ := enc_inj (ha r (by simp)) (hb s (by simp)) h
      obtain ⟨rfl, h3⟩ := ih (fun x hx => ha x (by simp [hx])) (fun x hx => hb x (by simp [hx])) h2
      exact ⟨rfl, h3⟩

/-- There is but one. -/
theorem decoded_one {l o o' : List Int} {e e' : Int} {n n' : Nat} (h : Decoded l o e n) (h' : Decoded l o' e' n') : o = o' ∧ e = e' ∧ n = n' := by
  rcases h with ⟨rfl, rfl, ha, hl⟩ | ⟨rfl, rfl, rs, t, ha, rfl, hl, hne, hno⟩ <;>
  rcases h' with ⟨rfl, rfl, ha', hl'⟩ | ⟨rfl, rfl, rs', t', ha', rfl, hl', hne', hno'⟩
  · have := two_heads (t := []) (u := []) ha ha' (by simp [hl, hl']) (.inl rfl) (.inl rfl)
    exact ⟨this.1, rfl, rfl⟩
  · exfalso
    have := two_heads (t := []) (u := t') ha ha' (by rw [List.append_nil, hl, hl']) (.inl rfl) (.inr hno')
    exact hne' this.2.symm
  · exfalso
    have := two_heads (t := t) (u := []) ha ha' (by rw [List.append_nil, hl', hl]) (.inr hno) (.inl rfl)
    exact hne this.2
  · have := two_heads (t := t) (u := t') ha ha' (by rw [← hl, ← hl']) (.inr hno) (.inr hno')
    obtain ⟨rfl, _⟩ := this
    exact ⟨rfl, rfl, rfl⟩

theorem decoded_len {l o : List Int} {e : Int} {n : Nat} (h : Decoded l o e n) : o.length ≤ l.length ∧ n ≤ l.length := by
  rcases h with ⟨rfl, rfl, ha, rfl⟩ | ⟨rfl, rfl, rs, t, ha, rfl, rfl, _, _⟩
  · exact ⟨encAll_ge ha, by simp⟩
  · exact ⟨by simp, by simp⟩

/-- What scalars are encoded to: the bytes, or which one is none. -/
def Encoded (l out : List Int) (e : Int) (at_ : Nat) : Prop :=
  (e = 0 ∧ at_ = 0 ∧ AllSc l ∧ out = encAll l) ∨
  (e = 2 ∧ out = [] ∧ ∃ rs s t, AllSc rs ∧ scB s = false ∧ l = rs ++ s :: t ∧ at_ = rs.length)

theorem encoded_one {l o o' : List Int} {e e' : Int} {n n' : Nat} (h : Encoded l o e n) (h' : Encoded l o' e' n') : o = o' ∧ e = e' ∧ n = n' := by
  rcases h with ⟨rfl, rfl, ha, rfl⟩ | ⟨rfl, rfl, rs, s, t, ha, hs, hl, rfl⟩ <;>
  rcases h' with ⟨rfl, rfl, ha', rfl⟩ | ⟨rfl, rfl, rs', s', t', ha', hs', hl', rfl⟩
  · exact ⟨rfl, rfl, rfl⟩
  · exfalso; have := ha s' (by rw [hl']; simp); rw [this] at hs'; cases hs'
  · exfalso; have := ha' s (by rw [hl]; simp); rw [this] at hs; cases hs
  · refine ⟨rfl, rfl, ?_⟩
    rw [hl] at hl'
    clear hl
    induction rs generalizing rs' with
    | nil =>
      cases rs' with
      | nil => rfl
      | cons x rs' =>
        exfalso
        simp only [List.nil_append, List.cons_append, List.cons.injEq] at hl'
        have := ha' x (by simp); rw [hl'.1, this] at hs; cases hs
    | cons x rs ih =>
      cases rs' with
      | nil =>
        exfalso
        simp only [List.nil_append, List.cons_append, List.cons.injEq] at hl'
        have := ha x (by simp); rw [← hl'.1, this] at hs'; cases hs'
      | cons y rs' =>
        simp only [List.cons_append, List.cons.injEq] at hl'
        have := ih (fun z hz => ha z (by simp [hz])) rs' (fun z hz => ha' z (by simp [hz])) hl'.2
        simp [this]

/-- The last k bytes of a scalar's that has more. -/
def tl (r : Int) : Nat → List Int
  | 1 => [128 + r % 64]
  | 2 => [128 + r / 64 % 64, 128 + r % 64]
  | 3 => [128 + r / 4096 % 64, 128 + r / 64 % 64, 128 + r % 64]
  | _ => []

end Go.Proofs.Ytambempcicakgaa.U
