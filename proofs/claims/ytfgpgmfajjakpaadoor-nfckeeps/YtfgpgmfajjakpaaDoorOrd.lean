/- Sorted by class, stable: what it is, and that there is but one such list. Plain mathematics. -/
import Derived.Test.YtfgpgmfajjakpaaDoorMath
namespace Go.Proofs.YtfgpgmfajjakpaaDoor.U
set_option linter.unusedVariables false

/-- Starters, and the marks of class k. -/
def pi (k : Int) (l : List Int) : List Int := l.filter fun c => cls c == 0 || cls c == k
/-- The same characters; those of one class, and starters among them, in their order. -/
def St (l l' : List Int) : Prop := l'.Perm l ∧ ∀ k, 0 < k → pi k l' = pi k l
/-- No mark stands behind a mark of a greater class. -/
def Srt (l : List Int) : Prop := ∀ i a b, l[i]? = some a → l[i + 1]? = some b → 0 < cls b → cls a ≤ cls b
def Ord (l l' : List Int) : Prop := St l l' ∧ Srt l'

theorem pi_append (k : Int) (a b : List Int) : pi k (a ++ b) = pi k a ++ pi k b := by simp [pi]
theorem pi_cons (k c : Int) (l : List Int) : pi k (c :: l) = if cls c = 0 ∨ cls c = k then c :: pi k l else pi k l := by
  unfold pi
  rw [List.filter_cons]
  by_cases h : cls c = 0 ∨ cls c = k
  · rw [if_pos h, if_pos (by simpa using h)]
  · rw [if_neg h, if_neg (by simpa using h)]
theorem St.refl (l : List Int) : St l l := ⟨List.Perm.refl _, fun _ _ => rfl⟩
theorem St.trans {a b c : List Int} (h : St a b) (g : St b c) : St a c := ⟨g.1.trans h.1, fun k hk => (g.2 k hk).trans (h.2 k hk)⟩
theorem St.symm {a b : List Int} (h : St a b) : St b a := ⟨h.1.symm, fun k hk => (h.2 k hk).symm⟩
theorem St.append {a b c d : List Int} (h : St a b) (g : St c d) : St (a ++ c) (b ++ d) :=
  ⟨h.1.append g.1, fun k hk => by rw [pi_append, pi_append, h.2 k hk, g.2 k hk]⟩
theorem St.length {a b : List Int} (h : St a b) : b.length = a.length := h.1.length_eq
theorem St.mem {a b : List Int} (h : St a b) {x : Int} : x ∈ b ↔ x ∈ a := h.1.mem_iff
/-- Marks of which no two are of one class change about. -/
theorem St.rot {x y : List Int} (hx : ∀ a ∈ x, 0 < cls a) (hy : ∀ b ∈ y, 0 < cls b) (h : ∀ a ∈ x, ∀ b ∈ y, cls a ≠ cls b) : St (x ++ y) (y ++ x) := by
  refine ⟨List.perm_append_comm, fun k hk => ?_⟩
  rw [pi_append, pi_append]
  by_cases hm : ∃ a ∈ x, cls a = k
  · obtain ⟨a, ha, hak⟩ := hm
    have : pi k y = [] := List.filter_eq_nil_iff.2 fun b hb => by
      have h1 := h a ha b hb
      have h2 := hy b hb
      simp
      omega
    rw [this]; simp
  · have : pi k x = [] := List.filter_eq_nil_iff.2 fun a ha => by
      have h1 := hx a ha
      have h2 : cls a ≠ k := fun e => hm ⟨a, ha, e⟩
      simp
      omega
    rw [this]; simp
theorem St.swap {a b : Int} (p t : List Int) (ha : 0 < cls a) (hb : 0 < cls b) (h : cls a ≠ cls b) : St (p ++ a :: b :: t) (p ++ b :: a :: t) := by
  have h1 : St ([a] ++ [b]) ([b] ++ [a]) := St.rot (by simpa using ha) (by simpa using hb) (by simpa using h)
  have h2 := (St.refl p).append (h1.append (St.refl t))
  simpa using h2

theorem Srt.tail {a : Int} {l : List Int} (h : Srt (a :: l)) : Srt l := fun i x y hx hy hp => h (i + 1) x y (by simpa using hx) (by simpa using hy) hp
theorem Srt.nil : Srt [] := fun i a b h => by simp at h
theorem cls_nn (c : Int) : 0 ≤ cls c := (cls_range c).1

theorem head_le : ∀ (t : List Int) (y x j : Int) (s : List Int), Srt (y :: t) → 0 < cls y → 0 < j → pi j t = x :: s → cls x = j → cls y ≤ j
  | [], y, x, j, s, _, _, _, h, _ => by simp [pi] at h
  | z :: t, y, x, j, s, hs, hy, hj, h, hx => by
    rw [pi_cons] at h
    by_cases hz0 : cls z = 0
    · rw [if_pos (.inl hz0)] at h
      obtain rfl := (List.cons.inj h).1
      omega
    · have hz := cls_nn z
      have h1 := hs 0 y z (by simp) (by simp) (by omega)
      by_cases hzj : cls z = j
      · omega
      · rw [if_neg (by omega)] at h
        have := head_le t z x j s hs.tail (by omega) hj h hx
        omega

theorem pi_nil {l : List Int} (h : ∀ k, 0 < k → pi k l = []) : l = [] := by
  cases l with
  | nil => rfl
  | cons y t =>
    exfalso
    have hy := cls_nn y
    by_cases h0 : cls y = 0
    · have := h 1 (by omega)
      rw [pi_cons, if_pos (.inl h0)] at this
      cases this
    · have := h (cls y) (by omega)
      rw [pi_cons, if_pos (.inr rfl)] at this
      cases this

/-- There is but one. -/
theorem srt_one : ∀ (l l' : List Int), Srt l → Srt l' → (∀ k, 0 < k → pi k l = pi k l') → l = l'
  | [], l', _, _, h => (pi_nil fun k hk => (h k hk).symm).symm
  | x :: t, [], _, _, h => pi_nil h
  | x :: t, y :: t', hs, hs', h => by
    have hx := cls_nn x
    have hy := cls_nn y
    have fin : x = y → x :: t = y :: t' := fun e => by
      subst e
      congr 1
      refine srt_one t t' hs.tail hs'.tail fun k hk => ?_
      have := h k hk
      rw [pi_cons, pi_cons] at this
      by_cases hc : cls x = 0 ∨ cls x = k
      · rw [if_pos hc, if_pos hc] at this
        exact (List.cons.inj this).2
      · rwa [if_neg hc, if_neg hc] at this
    by_cases hx0 : cls x = 0
    · by_cases hy0 : cls y = 0
      · have := h 1 (by omega)
        rw [pi_cons, pi_cons, if_pos (.inl hx0), if_pos (.inl hy0)] at this
        exact fin (List.cons.inj this).1
      · have := h (cls y) (by omega)
        rw [pi_cons, pi_cons, if_pos (.inl hx0), if_pos (.inr rfl)] at this
        exact fin (List.cons.inj this).1
    · by_cases hy0 : cls y = 0
      · have := h (cls x) (by omega)
        rw [pi_cons, pi_cons, if_pos (.inr rfl), if_pos (.inl hy0)] at this
        exact fin (List.cons.inj this).1
      · by_cases hxy : cls x = cls y
        · have := h (cls x) (by omega)
          rw [pi_cons, pi_cons, if_pos (.inr rfl), if_pos (.inr hxy.symm)] at this
          exact fin (List.cons.inj this).1
        · exfalso
          have h1 := h (cls x) (by omega)
          rw [pi_cons, pi_cons, if_pos (.inr rfl), if_neg (by omega)] at h1
          have h2 := h (cls y) (by omega)
          rw [pi_cons, pi_cons, if_neg (by omega), if_pos (.inr rfl)] at h2
          have g1 := head_le t' y x (cls x) _ hs' (by omega) (by omega) h1.symm rfl
          have g2 := head_le t x y (cls y) _ hs (by omega) (by omega) h2 rfl
          omega
theorem ord_one {l a b : List Int} (h : Ord l a) (g : Ord l b) : a = b := srt_one a b h.2 g.2 fun k hk => (h.1.2 k hk).trans (g.1.2 k hk).symm
theorem ord_self {l : List Int} (h : Srt l) : Ord l l := ⟨St.refl l, h⟩
theorem Ord.of_st {l m a : List Int} (h : Ord l a) (g : St l m) : Ord m a := ⟨g.symm.trans h.1, h.2⟩

/-- What begins with a starter stands by itself. -/
theorem srt_append {a b : List Int} (ha : Srt a) (hb : Srt b) (h : ∀ y, b[0]? = some y → cls y = 0) : Srt (a ++ b) := fun i x y hx hy hp => by
  by_cases h1 : i + 1 < a.length
  · rw [List.getElem?_append_left (by omega)] at hx
    rw [List.getElem?_append_left h1] at hy
    exact ha i x y hx hy hp
  · rw [List.getElem?_append_right (by omega)] at hy
    by_cases h2 : i < a.length
    · rw [show i + 1 - a.length = 0 by omega] at hy
      have := h y hy
      omega
    · rw [List.getElem?_append_right (by omega)] at hx
      rw [show i + 1 - a.length = (i - a.length) + 1 by omega] at hy
      exact hb _ x y hx hy hp
theorem ord_append {a b x y : List Int} (h : Ord a x) (g : Ord b y) (h0 : ∀ c, y[0]? = some c → cls c = 0) : Ord (a ++ b) (x ++ y) := ⟨h.1.append g.1, srt_append h.2 g.2 h0⟩

/-! Marks alone: sorted. -/
def Sd (l : List Int) : Prop := List.Pairwise (fun a b => cls a ≤ cls b) l
def Mk (l : List Int) : Prop := ∀ a ∈ l, 0 < cls a
theorem Sd.srt {l : List Int} (h : Sd l) : Srt l := fun i a b ha hb _ => by
  obtain ⟨h1, rfl⟩ := List.getElem?_eq_some_iff.1 ha
  obtain ⟨h2, rfl⟩ := List.getElem?_eq_some_iff.1 hb
  exact List.pairwise_iff_getElem.1 h i (i + 1) h1 h2 (by omega)
theorem Sd.at {l : List Int} (h : Sd l) {i j : Nat} {a b : Int} (ha : l[i]? = some a) (hb : l[j]? = some b) (hij : i ≤ j) : cls a ≤ cls b := by
  obtain ⟨h1, rfl⟩ := List.getElem?_eq_some_iff.1 ha
  obtain ⟨h2, rfl⟩ := List.getElem?_eq_some_iff.1 hb
  rcases Nat.lt_or_eq_of_le hij with h3 | rfl
  · exact List.pairwise_iff_getElem.1 h i j h1 h2 h3
  · exact Int.le_refl _
theorem sd_of_at {l : List Int} (h : ∀ (i j : Nat) (a b : Int), l[i]? = some a → l[j]? = some b → i < j → cls a ≤ cls b) : Sd l :=
  List.pairwise_iff_getElem.2 fun i j hi hj hij => h i j _ _ (by simp) (by simp) hij
theorem sd_nil : Sd [] := List.Pairwise.nil
theorem sd_one (a : Int) : Sd [a] := List.pairwise_singleton _ _
theorem sd_append {a b : List Int} : Sd (a ++ b) ↔ Sd a ∧ Sd b ∧ ∀ x ∈ a, ∀ y ∈ b, cls x ≤ cls y := List.pairwise_append
theorem Mk.append {a b : List Int} (h : Mk a) (g : Mk b) : Mk (a ++ b) := fun x hx => (List.mem_append.1 hx).elim (h x) (g x)
theorem Mk.left {a b : List Int} (h : Mk (a ++ b)) : Mk a := fun x hx => h x (List.mem_append_left _ hx)
theorem Mk.right {a b : List Int} (h : Mk (a ++ b)) : Mk b := fun x hx => h x (List.mem_append_right _ hx)
theorem Mk.st {a b : List Int} (h : Mk a) (g : St a b) : Mk b := fun x hx => h x (g.mem.1 hx)

/-! How far from sorted: what the reference's turns make less. -/
def far : List Int → Nat
  | [] => 0
  | c :: t => (cls c).toNat * (t.length + 1) + far t
theorem far_swap {a b : Int} (h : cls b < cls a) : ∀ (p t : List Int), far (p ++ b :: a :: t) < far (p ++ a :: b :: t)
  | [], t => by
    have h1 := cls_nn a
    have h2 := cls_nn b
    simp only [List.nil_append, far, List.length_cons]
    have h3 : (cls b).toNat < (cls a).toNat := by omega
    obtain ⟨d, hd⟩ : ∃ d, (cls a).toNat = (cls b).toNat + d + 1 := ⟨(cls a).toNat - (cls b).toNat - 1, by omega⟩
    rw [hd]
    have e1 : ((cls b).toNat + d + 1) * (t.length + 1 + 1) = ((cls b).toNat + d + 1) * (t.length + 1) + ((cls b).toNat + d + 1) := Nat.mul_succ _ _
    have e2 : (cls b).toNat * (t.length + 1 + 1) = (cls b).toNat * (t.length + 1) + (cls b).toNat := Nat.mul_succ _ _
    omega
  | c :: p, t => by
    have ih := far_swap h p t
    have e : (p ++ b :: a :: t).length = (p ++ a :: b :: t).length := by simp
    simp only [List.cons_append, far, e]
    omega
end Go.Proofs.YtfgpgmfajjakpaaDoor.U
