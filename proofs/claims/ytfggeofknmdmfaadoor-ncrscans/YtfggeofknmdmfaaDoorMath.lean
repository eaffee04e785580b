/- References of characters, as lists of numbers: which they are, that none begins another, what a text is with each put back. Plain mathematics. -/
import Derived.WalkKit
namespace Go.Proofs.YtfggeofknmdmfaaDoor.U
set_option linter.unusedVariables false

def scB (r : Int) : Bool := decide (0 ≤ r) && decide (r < 1114112) && !(decide (55296 ≤ r) && decide (r < 57344))
theorem scB_true {r : Int} : scB r = true ↔ (0 ≤ r ∧ r < 1114112 ∧ (r < 55296 ∨ 57344 ≤ r)) := by
  simp [scB]; omega
theorem scB_false {r : Int} : scB r = false ↔ (r < 0 ∨ 1114112 ≤ r ∨ (55296 ≤ r ∧ r < 57344)) := by
  rw [← Bool.not_eq_true, scB_true]; omega

/-- The digit of a number below 16. -/
def hx (d : Int) : Int := if d < 10 then 48 + d else 55 + d
def isD (c : Int) : Bool := decide (48 ≤ c) && decide (c ≤ 57) || decide (65 ≤ c) && decide (c ≤ 70)
def val (c : Int) : Int := if c < 58 then c - 48 else c - 55
theorem isD_true {c : Int} : isD c = true ↔ (48 ≤ c ∧ c ≤ 57) ∨ (65 ≤ c ∧ c ≤ 70) := by simp [isD]
theorem isD_false {c : Int} : isD c = false ↔ ¬ ((48 ≤ c ∧ c ≤ 57) ∨ (65 ≤ c ∧ c ≤ 70)) := by rw [← Bool.not_eq_true, isD_true]
theorem hx_D {d : Int} (h0 : 0 ≤ d) (h1 : d < 16) : isD (hx d) = true ∧ val (hx d) = d := by
  rw [isD_true]; unfold hx val; split <;> (constructor <;> (try split) <;> omega)
theorem D_hx {c : Int} (h : isD c = true) : 0 ≤ val c ∧ val c < 16 ∧ hx (val c) = c := by
  rw [isD_true] at h; unfold hx val; split <;> (refine ⟨?_, ?_, ?_⟩ <;> (try split) <;> omega)
theorem D_zero {c : Int} (h : isD c = true) : val c = 0 ↔ c = 48 := by
  rw [isD_true] at h; unfold val; split <;> omega

def num (l : List Int) : Int := l.foldl (fun a c => 16 * a + val c) 0
theorem num_snoc (l : List Int) (c : Int) : num (l ++ [c]) = 16 * num l + val c := by simp [num]

def dg (r : Int) : List Int :=
  if r < 65536 then [hx (r / 4096), hx (r / 256 % 16), hx (r / 16 % 16), hx (r % 16)]
  else if r < 1048576 then [hx (r / 65536), hx (r / 4096 % 16), hx (r / 256 % 16), hx (r / 16 % 16), hx (r % 16)]
  else [hx (r / 1048576), hx (r / 65536 % 16), hx (r / 4096 % 16), hx (r / 256 % 16), hx (r / 16 % 16), hx (r % 16)]
def refL (r : Int) : List Int := if scB r = true then 38 :: 35 :: 120 :: (dg r ++ [59]) else []

theorem ref_yes {r : Int} (h : scB r = true) : refL r = 38 :: 35 :: 120 :: (dg r ++ [59]) := by simp [refL, h]
theorem ref_no {r : Int} (h : scB r = false) : refL r = [] := by simp [refL, h]

theorem dg_length {r : Int} (h : scB r = true) : 4 ≤ (dg r).length ∧ (dg r).length ≤ 6 := by
  unfold dg; (repeat' split) <;> simp
theorem dg_D {r : Int} (h : scB r = true) : ∀ c ∈ dg r, isD c = true := by
  have h' := scB_true.1 h
  intro c hc
  unfold dg at hc
  (repeat' split at hc) <;> (simp at hc; rcases hc with rfl | rfl | rfl | rfl | rfl | rfl <;> exact (hx_D (by omega) (by omega)).1) <;> skip
theorem num_dg {r : Int} (h : scB r = true) : num (dg r) = r := by
  have h' := scB_true.1 h
  unfold dg
  split
  · simp only [num, List.foldl]
    rw [(hx_D (d := r / 4096) (by omega) (by omega)).2, (hx_D (d := r / 256 % 16) (by omega) (by omega)).2, (hx_D (d := r / 16 % 16) (by omega) (by omega)).2, (hx_D (d := r % 16) (by omega) (by omega)).2]
    omega
  · split
    · simp only [num, List.foldl]
      rw [(hx_D (d := r / 65536) (by omega) (by omega)).2, (hx_D (d := r / 4096 % 16) (by omega) (by omega)).2, (hx_D (d := r / 256 % 16) (by omega) (by omega)).2, (hx_D (d := r / 16 % 16) (by omega) (by omega)).2, (hx_D (d := r % 16) (by omega) (by omega)).2]
      omega
    · simp only [num, List.foldl]
      rw [(hx_D (d := r / 1048576) (by omega) (by omega)).2, (hx_D (d := r / 65536 % 16) (by omega) (by omega)).2, (hx_D (d := r / 4096 % 16) (by omega) (by omega)).2, (hx_D (d := r / 256 % 16) (by omega) (by omega)).2, (hx_D (d := r / 16 % 16) (by omega) (by omega)).2, (hx_D (d := r % 16) (by omega) (by omega)).2]
      omega
theorem dg_head {r : Int} (h : scB r = true) (h4 : 4 < (dg r).length) : (dg r)[0]? ≠ some 48 := by
  have h' := scB_true.1 h
  unfold dg at h4 ⊢
  split
  · rename_i hh; simp [hh] at h4
  · split
    · intro e
      simp at e
      have := (hx_D (d := r / 65536) (by omega) (by omega))
      have := (D_zero this.1).2 e
      omega
    · intro e
      simp at e
      have := (hx_D (d := r / 1048576) (by omega) (by omega))
      have := (D_zero this.1).2 e
      omega

/-- Digits of which no needless nought is the first are their number's. -/
theorem dg_num {l : List Int} (hD : ∀ c ∈ l, isD c = true) (h4 : 4 ≤ l.length) (h6 : l.length ≤ 6) (h0 : l.length = 4 ∨ l[0]? ≠ some 48) : dg (num l) = l := by
  rcases l with _ | ⟨a, _ | ⟨b, _ | ⟨c, _ | ⟨d, _ | ⟨e, _ | ⟨f, _ | ⟨g, t⟩⟩⟩⟩⟩⟩⟩ <;> simp at h4 h6
  · have ha := D_hx (hD a (by simp)); have hb := D_hx (hD b (by simp)); have hc := D_hx (hD c (by simp)); have hd := D_hx (hD d (by simp))
    simp only [num, List.foldl]
    unfold dg
    rw [if_pos (by omega)]
    rw [show (16 * (16 * (16 * (16 * 0 + val a) + val b) + val c) + val d) / 4096 = val a by omega, show (16 * (16 * (16 * (16 * 0 + val a) + val b) + val c) + val d) / 256 % 16 = val b by omega,
      show (16 * (16 * (16 * (16 * 0 + val a) + val b) + val c) + val d) / 16 % 16 = val c by omega, show (16 * (16 * (16 * (16 * 0 + val a) + val b) + val c) + val d) % 16 = val d by omega, ha.2.2, hb.2.2, hc.2.2, hd.2.2]
  · have ha := D_hx (hD a (by simp)); have hb := D_hx (hD b (by simp)); have hc := D_hx (hD c (by simp)); have hd := D_hx (hD d (by simp)); have he := D_hx (hD e (by simp))
    have hz : val a ≠ 0 := fun z => by have := (D_zero (hD a (by simp))).1 z; subst this; simp at h0
    simp only [num, List.foldl]
    generalize hX : (16 * (16 * (16 * (16 * (16 * 0 + val a) + val b) + val c) + val d) + val e) = X
    unfold dg
    rw [if_neg (by omega), if_pos (by omega)]
    rw [show X / 65536 = val a by omega, show X / 4096 % 16 = val b by omega, show X / 256 % 16 = val c by omega, show X / 16 % 16 = val d by omega, show X % 16 = val e by omega, ha.2.2, hb.2.2, hc.2.2, hd.2.2, he.2.2]
  · have ha := D_hx (hD a (by simp)); have hb := D_hx (hD b (by simp)); have hc := D_hx (hD c (by simp)); have hd := D_hx (hD d (by simp)); have he := D_hx (hD e (by simp)); have hf := D_hx (hD f (by simp))
    have hz : val a ≠ 0 := fun z => by have := (D_zero (hD a (by simp))).1 z; subst this; simp at h0
    simp only [num, List.foldl]
    generalize hX : (16 * (16 * (16 * (16 * (16 * (16 * 0 + val a) + val b) + val c) + val d) + val e) + val f) = X
    unfold dg
    rw [if_neg (by omega), if_neg (by omega)]
    rw [show X / 1048576 = val a by omega, show X / 65536 % 16 = val b by omega, show X / 4096 % 16 = val c by omega, show X / 256 % 16 = val d by omega, show X / 16 % 16 = val e by omega, show X % 16 = val f by omega, ha.2.2, hb.2.2, hc.2.2, hd.2.2, he.2.2, hf.2.2]

theorem num_range {l : List Int} (hD : ∀ c ∈ l, isD c = true) (h6 : l.length ≤ 6) : 0 ≤ num l ∧ num l < 16777216 := by
  have key : ∀ k (l : List Int), l.length = k → (∀ c ∈ l, isD c = true) → 0 ≤ num l ∧ num l < 16 ^ k := by
    intro k
    induction k with
    | zero => intro l hl _; rw [List.eq_nil_of_length_eq_zero hl]; simp [num]
    | succ k ih =>
      intro l hl hD
      rcases List.eq_nil_or_concat l with rfl | ⟨t, c, rfl⟩
      · simp at hl
      · have h1 := ih t (by simpa using hl) (fun x hx => hD x (by simp [hx]))
        have h2 := D_hx (hD c (by simp))
        rw [List.concat_eq_append, num_snoc]
        have h3 : (16 : Int) ^ (k + 1) = 16 * 16 ^ k := by rw [Int.pow_succ]; omega
        omega
  have h := key l.length l rfl hD
  have h2 : (16 : Int) ^ l.length ≤ 16777216 := by
    rcases (show l.length = 0 ∨ l.length = 1 ∨ l.length = 2 ∨ l.length = 3 ∨ l.length = 4 ∨ l.length = 5 ∨ l.length = 6 by omega) with e | e | e | e | e | e | e <;> rw [e] <;> decide
  omega

/-- Bytes, and characters of ASCII. -/
def Asc (l : List Int) : Prop := ∀ x ∈ l, 0 ≤ x ∧ x < 128
theorem ref_asc (r : Int) : Asc (refL r) := by
  intro x hx
  by_cases h : scB r = true
  · rw [ref_yes h] at hx
    simp at hx
    rcases hx with rfl | rfl | rfl | hx | rfl
    · omega
    · omega
    · omega
    · have := isD_true.1 (dg_D h x hx); omega
    · omega
  · rw [ref_no (by simpa using h)] at hx; simp at hx
theorem ref_length {r : Int} (h : scB r = true) : (refL r).length = (dg r).length + 4 := by rw [ref_yes h]; simp
theorem ref_pos {r : Int} (h : scB r = true) : 8 ≤ (refL r).length ∧ (refL r).length ≤ 10 := by have := ref_length h; have := dg_length h; omega
theorem ref_len_le (r : Int) : (refL r).length ≤ 10 := by
  by_cases h : scB r = true
  · exact (ref_pos h).2
  · rw [ref_no (by simpa using h)]; simp

theorem digits_eq {a b t u : List Int} (ha : ∀ c ∈ a, isD c = true) (hb : ∀ c ∈ b, isD c = true) (h : a ++ 59 :: t = b ++ 59 :: u) : a = b ∧ t = u := by
  induction a generalizing b with
  | nil =>
    rcases b with _ | ⟨y, b⟩
    · simpa using h
    · simp at h
      have := isD_true.1 (hb y (by simp)); omega
  | cons x a ih =>
    rcases b with _ | ⟨y, b⟩
    · simp at h
      have := isD_true.1 (ha x (by simp)); omega
    · simp at h
      obtain ⟨rfl, h⟩ := h
      obtain ⟨rfl, rfl⟩ := ih (fun c hc => ha c (by simp [hc])) (fun c hc => hb c (by simp [hc])) h
      exact ⟨rfl, rfl⟩

theorem ref_inj {r s : Int} {t u : List Int} (hr : scB r = true) (hs : scB s = true) (h : refL r ++ t = refL s ++ u) : r = s ∧ t = u := by
  rw [ref_yes hr, ref_yes hs] at h
  simp at h
  obtain ⟨h1, h2⟩ := digits_eq (dg_D hr) (dg_D hs) h
  exact ⟨by rw [← num_dg hr, ← num_dg hs, h1], h2⟩

def NoRef (l : List Int) : Prop := ∀ r t, scB r = true → l ≠ refL r ++ t
/-- What a text begins with. -/
def Scans (l : List Int) (v : Int) (n : Nat) : Prop := (scB v = true ∧ (refL v).length = n ∧ ∃ t, l = refL v ++ t) ∨ (v = 0 ∧ n = 0 ∧ NoRef l)
theorem scans_one {l : List Int} {v v' : Int} {n n' : Nat} (h : Scans l v n) (h' : Scans l v' n') : v = v' ∧ n = n' := by
  rcases h with ⟨hs, hn, t, ht⟩ | ⟨rfl, rfl, hno⟩ <;> rcases h' with ⟨hs', hn', t', ht'⟩ | ⟨rfl, rfl, hno'⟩
  · obtain ⟨rfl, _⟩ := ref_inj hs hs' (ht.symm.trans ht')
    exact ⟨rfl, by omega⟩
  · exact absurd ht (hno' v t hs)
  · exact absurd ht' (hno v' t' hs')
  · exact ⟨rfl, rfl⟩
theorem scans_range {l : List Int} {v : Int} {n : Nat} (h : Scans l v n) : 0 ≤ v ∧ v < 1114112 ∧ n ≤ 10 := by
  rcases h with ⟨hs, hn, _⟩ | ⟨rfl, rfl, _⟩
  · have := scB_true.1 hs; have := ref_len_le v; omega
  · omega
theorem scans_ref {c : Int} (h : scB c = true) (t : List Int) : Scans (refL c ++ t) c (refL c).length := .inl ⟨h, rfl, t, rfl⟩

/-- Does a reference stand anywhere? -/
def HasIs (l : List Int) (b : Bool) : Prop := (b = false ∧ ∀ i, NoRef (l.drop i)) ∨ (b = true ∧ ∃ i r t, scB r = true ∧ l.drop i = refL r ++ t)
theorem has_one {l : List Int} {b b' : Bool} (h : HasIs l b) (h' : HasIs l b') : b = b' := by
  rcases h with ⟨rfl, h⟩ | ⟨rfl, i, r, t, hr, h⟩ <;> rcases h' with ⟨rfl, h'⟩ | ⟨rfl, i', r', t', hr', h'⟩
  · rfl
  · exact absurd h' (h i' r' t' hr')
  · exact absurd h (h' i r t hr)
  · rfl

/-- A text with each reference's character in its place. -/
def ExpN : Nat → List Int → List Int → Prop
  | 0, l, o => l = [] ∧ o = []
  | k + 1, l, o => (∃ v t p, scB v = true ∧ l = refL v ++ t ∧ o = v :: p ∧ ExpN k t p) ∨ (∃ x t p, NoRef (x :: t) ∧ l = x :: t ∧ o = x :: p ∧ ExpN k t p)
def Exp (l o : List Int) : Prop := ∃ k, ExpN k l o
theorem Exp.nil : Exp [] [] := ⟨0, rfl, rfl⟩
theorem Exp.ref {v : Int} {t o : List Int} (h : scB v = true) (e : Exp t o) : Exp (refL v ++ t) (v :: o) := e.elim fun k hk => ⟨k + 1, .inl ⟨v, t, o, h, rfl, rfl, hk⟩⟩
theorem Exp.one {x : Int} {t o : List Int} (h : NoRef (x :: t)) (e : Exp t o) : Exp (x :: t) (x :: o) := e.elim fun k hk => ⟨k + 1, .inr ⟨x, t, o, h, rfl, rfl, hk⟩⟩
theorem Exp.ind {P : List Int → List Int → Prop} (h0 : P [] []) (hr : ∀ v t o, scB v = true → Exp t o → P t o → P (refL v ++ t) (v :: o))
    (h1 : ∀ x t o, NoRef (x :: t) → Exp t o → P t o → P (x :: t) (x :: o)) {l o : List Int} (h : Exp l o) : P l o := by
  obtain ⟨k, hk⟩ := h
  induction k generalizing l o with
  | zero => obtain ⟨rfl, rfl⟩ := hk; exact h0
  | succ k ih =>
    rcases hk with ⟨v, t, p, hv, rfl, rfl, hk⟩ | ⟨x, t, p, hx, rfl, rfl, hk⟩
    · exact hr v t p hv ⟨k, hk⟩ (ih hk)
    · exact h1 x t p hx ⟨k, hk⟩ (ih hk)
theorem Exp.inv {l o : List Int} (h : Exp l o) : (l = [] ∧ o = []) ∨ (∃ v t p, scB v = true ∧ l = refL v ++ t ∧ o = v :: p ∧ Exp t p) ∨ (∃ x t p, NoRef (x :: t) ∧ l = x :: t ∧ o = x :: p ∧ Exp t p) := by
  obtain ⟨k, hk⟩ := h
  cases k with
  | zero => exact .inl hk
  | succ k =>
    rcases hk with ⟨v, t, p, hv, e1, e2, hk⟩ | ⟨x, t, p, hx, e1, e2, hk⟩
    · exact .inr (.inl ⟨v, t, p, hv, e1, e2, ⟨k, hk⟩⟩)
    · exact .inr (.inr ⟨x, t, p, hx, e1, e2, ⟨k, hk⟩⟩)

theorem exp_one {l o o' : List Int} (h : Exp l o) (h' : Exp l o') : o = o' := by
  refine Exp.ind (P := fun l o => ∀ o', Exp l o' → o = o') ?_ ?_ ?_ h o' h'
  · intro o' h'
    rcases h'.inv with ⟨_, rfl⟩ | ⟨v, t, p, hv, e, _⟩ | ⟨x, t, p, _, e, _⟩
    · rfl
    · rw [ref_yes hv] at e; simp at e
    · simp at e
  · intro v t o hs _ ih o' h'
    rcases h'.inv with ⟨e, _⟩ | ⟨v', t', p, hv, e, rfl, hp⟩ | ⟨x, t', p, hx, e, _⟩
    · rw [ref_yes hs] at e; simp at e
    · obtain ⟨rfl, rfl⟩ := ref_inj hs hv e
      rw [ih p hp]
    · exact absurd e.symm (hx _ _ hs)
  · intro x t o hno _ ih o' h'
    rcases h'.inv with ⟨e, _⟩ | ⟨v', t', p, hv, e, rfl, hp⟩ | ⟨x', t', p, hx, e, rfl, hp⟩
    · simp at e
    · exact absurd e (hno _ _ hv)
    · simp at e
      obtain ⟨rfl, rfl⟩ := e
      rw [ih p hp]

theorem exp_length {l o : List Int} (h : Exp l o) : o.length ≤ l.length := by
  refine Exp.ind (P := fun l o => o.length ≤ l.length) ?_ ?_ ?_ h
  · simp
  · intro v t o hs _ ih
    have := ref_pos hs
    simp; omega
  · intro x t o _ _ ih
    simp; omega

/-- A text without '&' has no reference. -/
theorem noref_amp {x : Int} {t : List Int} (h : x ≠ 38) : NoRef (x :: t) := fun r u hr e => by
  rw [ref_yes hr] at e; simp at e; exact h e.1
theorem exp_plain {l : List Int} (h : ∀ x ∈ l, x ≠ 38) : Exp l l := by
  induction l with
  | nil => exact .nil
  | cons x t ih => exact .one (noref_amp (h x (by simp))) (ih fun y hy => h y (by simp [hy]))
theorem exp_ex (l : List Int) : ∃ o, Exp l o := by
  have key : ∀ n (l : List Int), l.length ≤ n → ∃ o, Exp l o := by
    intro n
    induction n with
    | zero =>
      intro l hl
      obtain rfl : l = [] := List.eq_nil_of_length_eq_zero (by omega)
      exact ⟨[], .nil⟩
    | succ n ih =>
      intro l hl
      by_cases hno : NoRef l
      · rcases l with _ | ⟨x, t⟩
        · exact ⟨[], .nil⟩
        · obtain ⟨o, ho⟩ := ih t (by simp at hl; omega)
          exact ⟨_, .one hno ho⟩
      · have : ∃ r t, scB r = true ∧ l = refL r ++ t := Classical.byContradiction fun hn => hno fun r t hr e => hn ⟨r, t, hr, e⟩
        obtain ⟨r, t, hr, rfl⟩ := this
        have := ref_pos hr
        obtain ⟨o, ho⟩ := ih t (by simp at hl; omega)
        exact ⟨_, .ref hr ho⟩
  exact key l.length l (Nat.le_refl _)

/-- The tail of a reference: no '&' in it. -/
theorem ref_tail {r : Int} (h : scB r = true) : ∃ q, refL r = 38 :: q ∧ (∀ x ∈ q, x ≠ 38) ∧ q ≠ [] := by
  refine ⟨_, ref_yes h, ?_, by simp⟩
  intro x hx
  simp at hx
  rcases hx with rfl | rfl | hx | rfl
  · omega
  · omega
  · have := isD_true.1 (dg_D h x hx); omega
  · omega

/-- What is put back is looked at but once. -/
theorem exp_again {c : Int} (h : scB c = true) {q : List Int} (hq : refL c = 38 :: q) : Exp (refL 38 ++ q) (refL c) := by
  obtain ⟨q', e, hq', _⟩ := ref_tail h
  rw [hq] at e
  simp at e
  subst e
  rw [hq]
  exact .ref (by decide) (exp_plain hq')
theorem exp_single {c : Int} (h : scB c = true) : Exp (refL c) [c] := by
  have := Exp.ref h Exp.nil
  simpa using this

/-- A list without '&', and what stands ahead of a reference. -/
theorem cut_amp {q a u t : List Int} {c : Int} (hq : ∀ x ∈ q, x ≠ 38) (hc : scB c = true) (h : q ++ u = a ++ (refL c ++ t)) : ∃ a', a = q ++ a' ∧ u = a' ++ (refL c ++ t) := by
  induction q generalizing a with
  | nil => exact ⟨a, rfl, by simpa using h⟩
  | cons x q ih =>
    rcases a with _ | ⟨y, a⟩
    · obtain ⟨q', e, _⟩ := ref_tail hc
      rw [e] at h
      simp at h
      exact absurd h.1 (hq x (by simp))
    · simp at h
      obtain ⟨rfl, h⟩ := h
      obtain ⟨a', rfl, h2⟩ := ih (fun z hz => hq z (by simp [hz])) (by simpa using h)
      exact ⟨a', rfl, h2⟩

theorem exp_join {a o b p : List Int} {c : Int} (hc : scB c = true) (h : Exp (a ++ refL c) o) (hb : Exp b p) : Exp (a ++ refL c ++ b) (o ++ p) := by
  refine Exp.ind (P := fun l o => ∀ a, a ++ refL c = l → Exp (a ++ refL c ++ b) (o ++ p)) ?_ ?_ ?_ h a rfl
  · intro a hl
    have h1 := ref_pos hc
    have h2 := congrArg List.length hl
    rw [List.length_append, List.length_nil] at h2
    omega
  · intro v t o hs e ih a hl
    rcases a with _ | ⟨x, a⟩
    · have h2 : refL c ++ [] = refL v ++ t := by simpa using hl
      obtain ⟨rfl, rfl⟩ := ref_inj hc hs h2
      have e0 : o = [] := exp_one e .nil
      subst e0
      simpa using Exp.ref hc hb
    · obtain ⟨q, hq, hq2, _⟩ := ref_tail hs
      rw [hq] at hl
      simp at hl
      obtain ⟨rfl, hl⟩ := hl
      obtain ⟨a', rfl, rfl⟩ := cut_amp (t := []) hq2 hc (by simpa using hl.symm)
      have := Exp.ref hs (ih a' (by simp))
      rw [hq] at this
      simpa using this
  · intro x t o hno e ih a hl
    rcases a with _ | ⟨y, a⟩
    · exact absurd (by simpa using hl.symm) (hno c [] hc)
    · simp at hl
      obtain ⟨rfl, rfl⟩ := hl
      have h1 := ih a rfl
      have : NoRef (y :: (a ++ refL c ++ b)) := by
        intro r u hr he
        obtain ⟨q, hq, hq2, _⟩ := ref_tail hr
        rw [hq] at he
        simp at he
        obtain ⟨rfl, he⟩ := he
        obtain ⟨a', rfl, _⟩ := cut_amp (t := b) hq2 hc (by simpa using he.symm)
        exact hno r (a' ++ refL c) hr (by rw [hq]; simp)
      simpa using Exp.one this h1

/-- Characters, some of them told by their numbers. -/
def mix : List (Int × Bool) → List Int
  | [] => []
  | (x, b) :: ps => (if b = true then refL x else [x]) ++ mix ps
theorem mix_snoc (ps : List (Int × Bool)) (x : Int) (b : Bool) : mix (ps ++ [(x, b)]) = mix ps ++ (if b = true then refL x else [x]) := by
  induction ps with
  | nil => simp [mix]
  | cons p ps ih => obtain ⟨y, d⟩ := p; simp [mix, ih]
theorem mix_length (ps : List (Int × Bool)) : (mix ps).length ≤ 10 * ps.length := by
  induction ps with
  | nil => simp [mix]
  | cons p ps ih =>
    obtain ⟨y, d⟩ := p
    have := ref_len_le y
    simp only [mix, List.length_append, List.length_cons]
    split <;> simp <;> omega

theorem mix_plain {q t : List Int} {ps : List (Int × Bool)} (hs : ∀ p ∈ ps, scB p.1 = true) (hq : ∀ x ∈ q, x ≠ 38) (h : mix ps = q ++ t) : ∃ u, ps.map (·.1) = q ++ u := by
  induction q generalizing ps with
  | nil => exact ⟨_, rfl⟩
  | cons x q ih =>
    rcases ps with _ | ⟨⟨y, b⟩, ps⟩
    · simp [mix] at h
    · simp only [mix] at h
      by_cases hb : b = true
      · obtain ⟨q', e, _⟩ := ref_tail (hs (y, b) (by simp))
        rw [if_pos hb] at h
        simp only at e
        rw [e] at h
        simp at h
        exact absurd h.1.symm (hq x (by simp))
      · rw [if_neg hb] at h
        simp at h
        obtain ⟨rfl, h⟩ := h
        obtain ⟨u, hu⟩ := ih (ps := ps) (fun p hp => hs p (by simp [hp])) (fun z hz => hq z (by simp [hz])) h
        exact ⟨u, by simpa using hu⟩

theorem mix_ref {v : Int} {t : List Int} {x : Int} {b : Bool} {ps : List (Int × Bool)} (hs : ∀ p ∈ (x, b) :: ps, scB p.1 = true) (hv : scB v = true) (hno : NoRef (((x, b) :: ps).map (·.1))) (h : mix ((x, b) :: ps) = refL v ++ t) : b = true ∧ x = v ∧ t = mix ps := by
  by_cases hb : b = true
  · simp only [mix] at h
    rw [if_pos hb] at h
    obtain ⟨rfl, rfl⟩ := ref_inj (hs (x, b) (by simp)) hv h
    exact ⟨hb, rfl, rfl⟩
  · exfalso
    simp only [mix] at h
    rw [if_neg hb] at h
    obtain ⟨q, hq, hq2, _⟩ := ref_tail hv
    rw [hq] at h
    simp at h
    obtain ⟨rfl, h⟩ := h
    obtain ⟨u, hu⟩ := mix_plain (fun p hp => hs p (by simp [hp])) hq2 h
    exact hno v u hv (by rw [hq]; simpa using hu)

theorem exp_mix {ps : List (Int × Bool)} (hs : ∀ p ∈ ps, scB p.1 = true) (hno : ∀ i, NoRef ((ps.map (·.1)).drop i)) : Exp (mix ps) (ps.map (·.1)) := by
  induction ps with
  | nil => exact .nil
  | cons p ps ih =>
    obtain ⟨x, b⟩ := p
    have h1 := ih (fun p hp => hs p (by simp [hp])) (fun i => by have := hno (i + 1); simpa using this)
    by_cases hb : b = true
    · simp only [mix, if_pos hb]
      simpa using Exp.ref (hs (x, b) (by simp)) h1
    · have h0 : NoRef (mix ((x, b) :: ps)) := fun v t hv e => hb (mix_ref hs hv (by simpa using hno 0) e).1
      simp only [mix, if_neg hb] at h0 ⊢
      simpa using Exp.one h0 h1

theorem drop_noamp {q t : List Int} (hq : ∀ x ∈ q, x ≠ 38) : ∀ i, i < q.length → NoRef ((q ++ t).drop i) := fun i hi => by
  rw [List.drop_append_of_le_length (by omega), List.drop_eq_getElem_cons hi]
  exact noref_amp (hq _ (List.getElem_mem hi))

theorem has_mix {ps : List (Int × Bool)} (hs : ∀ p ∈ ps, scB p.1 = true) (hno : ∀ i, NoRef ((ps.map (·.1)).drop i)) : HasIs (mix ps) (ps.any (·.2)) := by
  induction ps with
  | nil => exact .inl ⟨rfl, fun i r t hr e => by
      have := ref_pos hr
      have := congrArg List.length e
      simp [mix] at this
      omega⟩
  | cons p ps ih =>
    obtain ⟨x, b⟩ := p
    have h1 := ih (fun p hp => hs p (by simp [hp])) (fun i => by have := hno (i + 1); simpa using this)
    by_cases hb : b = true
    · refine .inr ⟨by simp [hb], 0, x, mix ps, hs (x, b) (by simp), by simp [mix, hb]⟩
    · have h0 : NoRef (mix ((x, b) :: ps)) := fun v t hv e => hb (mix_ref hs hv (by simpa using hno 0) e).1
      have e1 : mix ((x, b) :: ps) = x :: mix ps := by simp [mix, hb]
      have e2 : (((x, b) :: ps).any (·.2)) = ps.any (·.2) := by simp [hb]
      rw [e2]
      rw [e1] at h0 ⊢
      rcases h1 with ⟨e, h⟩ | ⟨e, i, r, t, hr, h⟩
      · refine .inl ⟨e, fun i => ?_⟩
        rcases i with _ | i
        · exact h0
        · simpa using h i
      · exact .inr ⟨e, i + 1, r, t, hr, by simpa using h⟩
end Go.Proofs.YtfggeofknmdmfaaDoor.U
