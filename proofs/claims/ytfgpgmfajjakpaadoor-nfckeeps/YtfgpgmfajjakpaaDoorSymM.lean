/- The mathematics of slices.symMergeCmpFunc and slices.stableCmpFunc: two sorted runs of marks made one. -/
import Derived.Test.YtfgpgmfajjakpaaDoorOrd
namespace Go.Proofs.YtfgpgmfajjakpaaDoor.U
set_option linter.unusedVariables false

/-- The class of what stands at a place. -/
def kAt (l : List Int) (i : Nat) : Int := cls (l.getD i 0)
theorem kAt_is {l : List Int} {i : Nat} {z : Int} (h : l[i]? = some z) : kAt l i = cls z := by unfold kAt; simp [List.getD, h]
/-- A row: p, then x up to m, then y up to b. -/
def Lay (p x y : List Int) (a m b : Nat) : Prop := p.length = a ∧ a + x.length = m ∧ m + y.length = b
theorem Lay.atx {p x y q : List Int} {a m b : Nat} (h : Lay p x y a m b) {i : Nat} (h0 : a ≤ i) (h1 : i < m) : ∃ z, x[i - a]? = some z ∧ (p ++ (x ++ (y ++ q)))[i]? = some z := by
  obtain ⟨hp, hm, hb⟩ := h
  refine ⟨x[i - a]'(by omega), by simp, ?_⟩
  rw [List.getElem?_append_right (by omega), hp, List.getElem?_append_left (by omega)]
  simp
theorem Lay.aty {p x y q : List Int} {a m b : Nat} (h : Lay p x y a m b) {i : Nat} (h0 : m ≤ i) (h1 : i < b) : ∃ z, y[i - m]? = some z ∧ (p ++ (x ++ (y ++ q)))[i]? = some z := by
  obtain ⟨hp, hm, hb⟩ := h
  refine ⟨y[i - m]'(by omega), by simp, ?_⟩
  rw [List.getElem?_append_right (by omega), hp, List.getElem?_append_right (by omega), List.getElem?_append_left (by omega), show i - a - x.length = i - m by omega]
  simp
theorem Lay.kx {p x y q : List Int} {a m b : Nat} (h : Lay p x y a m b) (hx : Sd x) {i j : Nat} (h0 : a ≤ i) (h1 : i ≤ j) (h2 : j < m) : kAt (p ++ (x ++ (y ++ q))) i ≤ kAt (p ++ (x ++ (y ++ q))) j := by
  obtain ⟨z, hz, hz'⟩ := h.atx (q := q) h0 (by omega)
  obtain ⟨u, hu, hu'⟩ := h.atx (q := q) (i := j) (by omega) h2
  rw [kAt_is hz', kAt_is hu']
  exact hx.at hz hu (by omega)
theorem Lay.ky {p x y q : List Int} {a m b : Nat} (h : Lay p x y a m b) (hy : Sd y) {i j : Nat} (h0 : m ≤ i) (h1 : i ≤ j) (h2 : j < b) : kAt (p ++ (x ++ (y ++ q))) i ≤ kAt (p ++ (x ++ (y ++ q))) j := by
  obtain ⟨z, hz, hz'⟩ := h.aty (q := q) h0 (by omega)
  obtain ⟨u, hu, hu'⟩ := h.aty (q := q) (i := j) (by omega) h2
  rw [kAt_is hz', kAt_is hu']
  exact hy.at hz hu (by omega)
theorem Lay.memx {p x y q x1 x2 : List Int} {a m b : Nat} (h : Lay p x y a m b) (e : x = x1 ++ x2) {z : Int} : (z ∈ x1 → ∃ i, a ≤ i ∧ i < a + x1.length ∧ kAt (p ++ (x ++ (y ++ q))) i = cls z) ∧ (z ∈ x2 → ∃ i, a + x1.length ≤ i ∧ i < m ∧ kAt (p ++ (x ++ (y ++ q))) i = cls z) := by
  obtain ⟨hp, hm, hb⟩ := h
  constructor
  · intro hz
    obtain ⟨t, ht⟩ := List.getElem?_of_mem hz
    have hl := (List.getElem?_eq_some_iff.1 ht).1
    refine ⟨a + t, by omega, by omega, kAt_is ?_⟩
    rw [List.getElem?_append_right (by omega), hp, show a + t - a = t by omega, e, List.append_assoc, List.getElem?_append_left hl, ht]
  · intro hz
    obtain ⟨t, ht⟩ := List.getElem?_of_mem hz
    have hl := (List.getElem?_eq_some_iff.1 ht).1
    rw [e, List.length_append] at hm
    refine ⟨a + x1.length + t, by omega, by omega, kAt_is ?_⟩
    rw [List.getElem?_append_right (by omega), hp, e, List.append_assoc, List.getElem?_append_right (by omega), show a + x1.length + t - a - x1.length = t by omega, List.getElem?_append_left hl, ht]
theorem Lay.memy {p x y q y1 y2 : List Int} {a m b : Nat} (h : Lay p x y a m b) (e : y = y1 ++ y2) {z : Int} : (z ∈ y1 → ∃ i, m ≤ i ∧ i < m + y1.length ∧ kAt (p ++ (x ++ (y ++ q))) i = cls z) ∧ (z ∈ y2 → ∃ i, m + y1.length ≤ i ∧ i < b ∧ kAt (p ++ (x ++ (y ++ q))) i = cls z) := by
  obtain ⟨hp, hm, hb⟩ := h
  constructor
  · intro hz
    obtain ⟨t, ht⟩ := List.getElem?_of_mem hz
    have hl := (List.getElem?_eq_some_iff.1 ht).1
    refine ⟨m + t, by omega, by omega, kAt_is ?_⟩
    rw [List.getElem?_append_right (by omega), hp, List.getElem?_append_right (by omega), show m + t - a - x.length = t by omega, e, List.append_assoc, List.getElem?_append_left hl, ht]
  · intro hz
    obtain ⟨t, ht⟩ := List.getElem?_of_mem hz
    have hl := (List.getElem?_eq_some_iff.1 ht).1
    rw [e, List.length_append] at hb
    refine ⟨m + y1.length + t, by omega, by omega, kAt_is ?_⟩
    rw [List.getElem?_append_right (by omega), hp, List.getElem?_append_right (by omega), e, List.append_assoc, List.getElem?_append_right (by omega), show m + y1.length + t - a - x.length - y1.length = t by omega, List.getElem?_append_left hl, ht]
theorem cut_two {X : List Int} {j : Nat} (hj : j ≤ X.length) : ∃ X1 X2, X = X1 ++ X2 ∧ X1.length = j :=
  ⟨X.take j, X.drop j, (List.take_append_drop _ _).symm, by rw [List.length_take]; omega⟩

/-- One ahead of a run. -/
theorem merge_one {u : Int} {y1 y2 : List Int} (hM : Mk (u :: (y1 ++ y2))) (hy : Sd (y1 ++ y2)) (h1 : ∀ z ∈ y1, cls z < cls u) (h2 : ∀ z ∈ y2, cls u ≤ cls z) : St ([u] ++ (y1 ++ y2)) (y1 ++ u :: y2) ∧ Sd (y1 ++ u :: y2) := by
  constructor
  · have h3 : St ([u] ++ y1) (y1 ++ [u]) := St.rot (fun z hz => hM z (by simp at hz; simp [hz])) (fun z hz => hM z (by simp [hz])) (fun z hz t ht => by
      simp at hz
      subst hz
      have := h1 t ht
      omega)
    have h4 := h3.append (St.refl y2)
    simpa using h4
  · have hs := sd_append.1 hy
    refine sd_append.2 ⟨hs.1, List.pairwise_cons.2 ⟨h2, hs.2.1⟩, fun z hz t ht => ?_⟩
    rcases List.mem_cons.1 ht with rfl | ht
    · exact Int.le_of_lt (h1 z hz)
    · exact hs.2.2 z hz t ht
/-- One behind a run. -/
theorem merge_last {v : Int} {x1 x2 : List Int} (hM : Mk (x1 ++ x2 ++ [v])) (hx : Sd (x1 ++ x2)) (h1 : ∀ z ∈ x1, cls z ≤ cls v) (h2 : ∀ z ∈ x2, cls v < cls z) : St ((x1 ++ x2) ++ [v]) (x1 ++ v :: x2) ∧ Sd (x1 ++ v :: x2) := by
  constructor
  · have h3 : St (x2 ++ [v]) ([v] ++ x2) := St.rot (fun z hz => hM z (by simp [hz])) (fun z hz => hM z (by simp at hz; simp [hz])) (fun z hz t ht => by
      simp at ht
      subst ht
      have := h2 z hz
      omega)
    have h4 := (St.refl x1).append h3
    simpa using h4
  · have hs := sd_append.1 hx
    refine sd_append.2 ⟨hs.1, List.pairwise_cons.2 ⟨fun z hz => Int.le_of_lt (h2 z hz), hs.2.1⟩, fun z hz t ht => ?_⟩
    rcases List.mem_cons.1 ht with rfl | ht
    · exact h1 z hz
    · exact hs.2.2 z hz t ht
/-- The two middle runs change places, and each half is merged. -/
theorem merge_two {x1 x2 y1 y2 s1 s2 : List Int} (hM : Mk ((x1 ++ x2) ++ (y1 ++ y2))) (hx : Sd (x1 ++ x2)) (hy : Sd (y1 ++ y2)) (h1 : ∀ u ∈ x2, ∀ z ∈ y1, cls z < cls u) (h2 : ∀ u ∈ x1, ∀ z ∈ y2, cls u ≤ cls z)
    (t1 : St (x1 ++ y1) s1) (d1 : Sd s1) (t2 : St (x2 ++ y2) s2) (d2 : Sd s2) : St ((x1 ++ x2) ++ (y1 ++ y2)) (s1 ++ s2) ∧ Sd (s1 ++ s2) := by
  constructor
  · have h3 : St (x2 ++ y1) (y1 ++ x2) := St.rot (fun z hz => hM z (by simp [hz])) (fun z hz => hM z (by simp [hz])) (fun u hu z hz => by have := h1 u hu z hz; omega)
    have h4 := (St.refl x1).append (h3.append (St.refl y2))
    have h5 := t1.append t2
    refine St.trans (b := (x1 ++ y1) ++ (x2 ++ y2)) ?_ h5
    simpa using h4
  · refine sd_append.2 ⟨d1, d2, fun u hu z hz => ?_⟩
    have hu' := t1.mem.1 hu
    have hz' := t2.mem.1 hz
    have hxs := (sd_append.1 hx).2.2
    have hys := (sd_append.1 hy).2.2
    rcases List.mem_append.1 hu' with hu' | hu' <;> rcases List.mem_append.1 hz' with hz' | hz'
    · exact hxs u hu' z hz'
    · exact h2 u hu' z hz'
    · exact Int.le_of_lt (h1 z hz' u hu')
    · exact hys u hu' z hz'

/-- What the search by halves along the two runs has found. -/
def Mid (K : Nat → Int) (n lo hi s r : Nat) : Prop := (∀ c, lo ≤ c → c < s → K c ≤ K (n - 1 - c)) ∧ ∀ c, r ≤ c → c < hi → K (n - 1 - c) < K c
theorem mid_parts {p x y q x1 x2 y1 y2 : List Int} {a m b mid n lo hi s : Nat} (h : Lay p x y a m b) (hx : Sd x) (hy : Sd y) (ham : a < m) (hmb : m < b) (hmid : mid = (a + b) / 2) (hn : n = mid + m)
    (hlo : (mid < m ∧ lo + b = n ∧ hi = mid) ∨ (m ≤ mid ∧ lo = a ∧ hi = m)) (hs0 : lo ≤ s) (hs1 : s ≤ hi) (hM : Mid (kAt (p ++ (x ++ (y ++ q)))) n lo hi s s)
    (ex : x = x1 ++ x2) (l1 : a + x1.length = s) (ey : y = y1 ++ y2) (l2 : m + y1.length + s = n) :
    (∀ u ∈ x2, ∀ z ∈ y1, cls z < cls u) ∧ ∀ u ∈ x1, ∀ z ∈ y2, cls u ≤ cls z := by
  constructor
  · intro u hu z hz
    obtain ⟨cu, u0, u1, u2⟩ := (h.memx (q := q) ex).2 hu
    obtain ⟨cz, z0, z1, z2⟩ := (h.memy (q := q) ey).1 hz
    rw [← u2, ← z2]
    have e1 : s < hi := by omega
    have k1 := hM.2 s (Nat.le_refl _) e1
    have k2 := h.kx (q := q) hx (i := s) (j := cu) (by omega) (by omega) u1
    have k3 := h.ky (q := q) hy (i := cz) (j := n - 1 - s) z0 (by omega) (by omega)
    omega
  · intro u hu z hz
    obtain ⟨cu, u0, u1, u2⟩ := (h.memx (q := q) ex).1 hu
    obtain ⟨cz, z0, z1, z2⟩ := (h.memy (q := q) ey).2 hz
    rw [← u2, ← z2]
    have e1 : lo < s := by omega
    have k1 := hM.1 (s - 1) (by omega) (by omega)
    have k2 := h.kx (q := q) hx (i := cu) (j := s - 1) u0 (by omega) (by omega)
    have k3 := h.ky (q := q) hy (i := n - 1 - (s - 1)) (j := cz) (by omega) (by omega) z1
    omega

/-! Blocks. -/
/-- Runs of bs, each sorted. -/
def Blk (bs : Nat) (l : List Int) : Prop := ∀ (i j : Nat) (x y : Int), l[i]? = some x → l[j]? = some y → i ≤ j → i / bs = j / bs → cls x ≤ cls y
theorem blk_nil (bs : Nat) : Blk bs [] := fun i j x y h => by simp at h
theorem div_same {a i bs : Nat} (h0 : 0 < bs) (hd : a % bs = 0) (hi : i < bs) : (a + i) / bs = a / bs := by
  obtain ⟨k, hk⟩ : ∃ k, a = bs * k := ⟨a / bs, by have := Nat.div_add_mod a bs; omega⟩
  subst hk
  rw [Nat.mul_add_div h0, Nat.mul_div_cancel_left k h0, Nat.div_eq_of_lt hi]
  omega
theorem blk_snoc {bs : Nat} {l s : List Int} (h0 : 0 < bs) (h : Blk bs l) (hd : l.length % bs = 0) (hs : Sd s) (hl : s.length ≤ bs) : Blk bs (l ++ s) := by
  intro i j x y hx hy hij he
  have hj := (List.getElem?_eq_some_iff.1 hy).1
  rw [List.length_append] at hj
  by_cases h1 : j < l.length
  · rw [List.getElem?_append_left (by omega)] at hx
    rw [List.getElem?_append_left h1] at hy
    exact h i j x y hx hy hij he
  · have ej := div_same h0 hd (i := j - l.length) (by omega)
    rw [show l.length + (j - l.length) = j by omega] at ej
    by_cases h2 : i < l.length
    · exfalso
      rw [ej] at he
      obtain ⟨k, hk⟩ : ∃ k, l.length = bs * k := ⟨l.length / bs, by have := Nat.div_add_mod l.length bs; omega⟩
      rw [hk, Nat.mul_div_cancel_left k h0] at he
      have := (Nat.div_lt_iff_lt_mul h0).2 (show i < k * bs by rw [Nat.mul_comm]; omega)
      omega
    · rw [List.getElem?_append_right (by omega)] at hx hy
      exact hs.at hx hy (by omega)
theorem blk_cut {bs : Nat} {l r : List Int} (h0 : 0 < bs) (h : Blk bs (l ++ r)) (hd : l.length % bs = 0) : Blk bs r := by
  intro i j x y hx hy hij he
  obtain ⟨k, hk⟩ : ∃ k, l.length = bs * k := ⟨l.length / bs, by have := Nat.div_add_mod l.length bs; omega⟩
  refine h (l.length + i) (l.length + j) x y (by rw [List.getElem?_append_right (by omega)]; simpa using hx) (by rw [List.getElem?_append_right (by omega)]; simpa using hy) (by omega) ?_
  rw [hk, Nat.mul_add_div h0, Nat.mul_add_div h0, he]
theorem blk_sd {bs : Nat} {l r : List Int} (h : Blk bs (l ++ r)) (hl : l.length ≤ bs) : Sd l := sd_of_at fun i j a b ha hb hij => by
  have hi := (List.getElem?_eq_some_iff.1 ha).1
  have hj := (List.getElem?_eq_some_iff.1 hb).1
  refine h i j a b (by rw [List.getElem?_append_left hi]; exact ha) (by rw [List.getElem?_append_left hj]; exact hb) (by omega) ?_
  rw [Nat.div_eq_of_lt (by omega), Nat.div_eq_of_lt (by omega)]
theorem blk_whole {bs : Nat} {l : List Int} (h : Blk bs l) (hl : l.length ≤ bs) : Sd l := blk_sd (r := []) (by simpa using h) hl
end Go.Proofs.YtfgpgmfajjakpaaDoor.U
