/- Putting together: what one character does to what is together already, and that nothing is lost: taken apart, what is together comes to what was handed in. Plain mathematics. -/
import Derived.Test.YtfgpgmfajjakpaaDoorPairJ
namespace Go.Proofs.YtfgpgmfajjakpaaDoor.U
set_option linter.unusedVariables false

/-- What the two are, if they are joined: by the table, or else as syllables. -/
def Jn (a b x : Int) (ok : Bool) : Prop := Joi a b x true ∧ ok = true ∨ (∃ y, Joi a b y false) ∧ HJoi a b x ok
theorem jn_any (a b : Int) : ∃ x ok, Jn a b x ok := by
  obtain ⟨r, ok, h⟩ := joi_any a b
  cases ok with
  | true => exact ⟨r, true, .inl ⟨h, rfl⟩⟩
  | false =>
    obtain ⟨x, ok, h'⟩ := hjoi_any a b
    exact ⟨x, ok, .inr ⟨⟨r, h⟩, h'⟩⟩
noncomputable def jx (a b : Int) : Int := Classical.choose (jn_any a b)
noncomputable def jk (a b : Int) : Bool := Classical.choose (Classical.choose_spec (jn_any a b))
theorem jn_is (a b : Int) : Jn a b (jx a b) (jk a b) := Classical.choose_spec (Classical.choose_spec (jn_any a b))
theorem joi_one {a b x y : Int} {p q : Bool} (h : Joi a b x p) (g : Joi a b y q) : x = y ∧ p = q := by
  rcases h with ⟨t, ht, h1, h2, rfl, rfl⟩ | ⟨h, rfl, rfl⟩
  · obtain ⟨e1, e2⟩ := joi_row ht h1 h2 g
    exact ⟨e1.symm, e2.symm⟩
  · rcases g with ⟨u, hu, g1, g2, _⟩ | ⟨_, rfl, rfl⟩
    · exact absurd ⟨g1, g2⟩ (h u hu)
    · exact ⟨rfl, rfl⟩
theorem jn_ap {a b x : Int} (h : Jn a b x true) : ap x = ap a ++ ap b := by
  rcases h with ⟨h, _⟩ | ⟨_, h⟩
  · have hp := joi_pts h
    rw [ap_split (by rw [hp]; simp), hp]
    simp
  · exact hjoi_ap h
theorem jn_233 : jx 101 769 = 233 ∧ jk 101 769 = true := by
  rcases jn_is 101 769 with ⟨h, e⟩ | ⟨⟨y, h⟩, _⟩
  · exact ⟨(joi_one h joi_233).1, e⟩
  · have := (joi_one h joi_233).2
    cases this

/-- Nothing keeps the character from the last starter. -/
def rch (o : List Int) (s c : Int) : Bool := if s = -1 then false else if s = (o.length : Int) - 1 then true else decide (cls (o.getD (o.length - 1) 0) < cls c)
/-- It is joined with the last starter. -/
noncomputable def jnd (o : List Int) (s c : Int) : Bool := rch o s c && jk (o.getD s.toNat 0) c
noncomputable def nxt (o : List Int) (s c : Int) : List Int := if jnd o s c = true then o.set s.toNat (jx (o.getD s.toNat 0) c) else o ++ [c]
noncomputable def nst (o : List Int) (s c : Int) : Int := if jnd o s c = true then s else if cls c = 0 then (o.length : Int) else s
/-- The starter is one that is there. -/
def Ok (o : List Int) (s : Int) : Prop := s = -1 ∨ (0 ≤ s ∧ s < (o.length : Int))
theorem nxt_len (o : List Int) (s c : Int) : o.length ≤ (nxt o s c).length ∧ (nxt o s c).length ≤ o.length + 1 := by
  unfold nxt
  split <;> simp
theorem Ok.step {o : List Int} {s : Int} (c : Int) (h : Ok o s) : Ok (nxt o s c) (nst o s c) := by
  unfold Ok at h ⊢
  unfold nxt nst
  by_cases hj : jnd o s c = true
  · rw [if_pos hj, if_pos hj]
    rw [List.length_set]
    exact h
  · rw [if_neg hj, if_neg hj]
    by_cases hc : cls c = 0
    · rw [if_pos hc]; right; simp; omega
    · rw [if_neg hc]
      rw [List.length_append]
      simp
      omega
/-- Going on with a text: what is together, and where its last starter stands. -/
noncomputable def goO : List Int → List Int → Int → List Int
  | [], o, _ => o
  | c :: t, o, s => goO t (nxt o s c) (nst o s c)
noncomputable def goS : List Int → List Int → Int → Int
  | [], _, s => s
  | c :: t, o, s => goS t (nxt o s c) (nst o s c)
theorem go_snoc (c : Int) : ∀ (t o : List Int) (s : Int), goO (t ++ [c]) o s = nxt (goO t o s) (goS t o s) c ∧ goS (t ++ [c]) o s = nst (goO t o s) (goS t o s) c
  | [], o, s => ⟨rfl, rfl⟩
  | x :: t, o, s => go_snoc c t (nxt o s x) (nst o s x)
theorem go_ok : ∀ (t o : List Int) (s : Int), Ok o s → Ok (goO t o s) (goS t o s)
  | [], o, s, h => h
  | x :: t, o, s, h => go_ok t _ _ (h.step x)
theorem go_len : ∀ (t o : List Int) (s : Int), (goO t o s).length ≤ o.length + t.length
  | [], o, s => by simp [goO]
  | x :: t, o, s => by
    have h1 := go_len t (nxt o s x) (nst o s x)
    have h2 := (nxt_len o s x).2
    simp only [goO, List.length_cons]
    omega
/-- A text that is taken apart, put together. -/
noncomputable def nfc (d : List Int) : List Int := goO d [] (-1)
theorem nfc_len (d : List Int) : (nfc d).length ≤ d.length := by
  have := go_len d [] (-1)
  simpa [nfc] using this

/-- What stands behind the last starter: marks, sorted, none higher than the last that came. -/
def TailJ (p o : List Int) (s : Int) : Prop := s = -1 ∨ ∃ a y m, o = a ++ y :: m ∧ s = (a.length : Int) ∧ Mk m ∧ Sd m ∧ (∀ z ∈ m, pts z = []) ∧ ∀ z, p.getLast? = some z → ∀ u ∈ m, cls u ≤ cls z
def InvJ (p o : List Int) (s : Int) : Prop := St p (apL o) ∧ TailJ p o s
theorem getD_at (a : List Int) (y : Int) (m : List Int) : (a ++ y :: m).getD a.length 0 = y := by simp [List.getD]
theorem set_at (a : List Int) (y z : Int) (m : List Int) : (a ++ y :: m).set a.length z = a ++ z :: m := by simp
theorem sd_last {m : List Int} {v : Int} (h : Sd (m ++ [v])) : ∀ u ∈ m ++ [v], cls u ≤ cls v := fun u hu => by
  rcases List.mem_append.1 hu with h1 | h1
  · exact (sd_append.1 h).2.2 u h1 v (by simp)
  · simp at h1; rw [h1]; exact Int.le_refl _
theorem InvJ.step {p o : List Int} {s c : Int} (h : InvJ p o s) (hc : pts c = []) (hs : ∀ z, p.getLast? = some z → 0 < cls c → cls z ≤ cls c) : InvJ (p ++ [c]) (nxt o s c) (nst o s c) := by
  obtain ⟨h1, h2⟩ := h
  have happ : St (p ++ [c]) (apL (o ++ [c])) := by
    rw [apL_append, apL_cons, apL_nil, List.append_nil, ap_free hc]
    exact h1.append (St.refl _)
  have hcn := cls_nn c
  by_cases hj : jnd o s c = true
  · unfold nxt nst
    rw [if_pos hj, if_pos hj]
    unfold jnd at hj
    rw [Bool.and_eq_true] at hj
    obtain ⟨hr, hk⟩ := hj
    rcases h2 with rfl | ⟨a, y, m, rfl, rfl, hM, hD, hF, hL⟩
    · simp [rch] at hr
    · have et : ((a.length : Nat) : Int).toNat = a.length := by omega
      rw [et] at hk ⊢
      rw [getD_at] at hk ⊢
      rw [set_at]
      have hx := jn_is y c
      rw [hk] at hx
      have hap := jn_ap hx
      rw [ap_free hc] at hap
      -- marks that stand between are below c
      have hlow : ∀ u ∈ m, cls u < cls c := by
        intro u hu
        obtain ⟨m', v, rfl⟩ : ∃ m' v, m = m' ++ [v] := by
          rcases List.eq_nil_or_concat m with rfl | ⟨m', v, rfl⟩
          · simp at hu
          · exact ⟨m', v, by simp⟩
        unfold rch at hr
        rw [if_neg (by omega), if_neg (by simp; omega)] at hr
        have e : (a ++ y :: (m' ++ [v])).getD ((a ++ y :: (m' ++ [v])).length - 1) 0 = v := by
          have e1 : a ++ y :: (m' ++ [v]) = (a ++ y :: m') ++ v :: [] := by simp
          rw [e1]
          have e2 : ((a ++ y :: m') ++ v :: []).length - 1 = (a ++ y :: m').length := by simp
          rw [e2, getD_at]
        rw [e] at hr
        have := sd_last hD u hu
        have := of_decide_eq_true hr
        omega
      refine ⟨?_, .inr ⟨a, _, m, rfl, rfl, hM, hD, hF, fun z hz u hu => ?_⟩⟩
      · have hold : apL (a ++ y :: m) = apL a ++ (ap y ++ m) := by rw [apL_append, apL_cons, apL_free hF]
        have hnew : apL (a ++ jx y c :: m) = apL a ++ (ap y ++ ([c] ++ m)) := by rw [apL_append, apL_cons, apL_free hF, hap]; simp
        rw [hnew]
        rw [hold] at h1
        refine (h1.append (St.refl [c])).trans ?_
        have hrot : St (m ++ [c]) ([c] ++ m) := by
          rcases List.eq_nil_or_concat m with rfl | ⟨m', v, rfl⟩
          · simpa using St.refl [c]
          · refine St.rot hM (fun b hb => ?_) (fun u hu b hb => ?_)
            · simp at hb
              subst hb
              have := hlow v (by simp)
              have := cls_nn v
              omega
            · simp at hb
              subst hb
              have := hlow u hu
              omega
        have h3 := (St.refl (apL a)).append ((St.refl (ap y)).append hrot)
        simpa [List.append_assoc] using h3
      · rw [List.getLast?_append] at hz
        simp at hz
        subst hz
        have := hlow u hu
        omega
  · unfold nxt nst
    rw [if_neg hj, if_neg hj]
    refine ⟨happ, ?_⟩
    by_cases h0 : cls c = 0
    · rw [if_pos h0]
      exact .inr ⟨o, c, [], rfl, rfl, fun _ h => by simp at h, sd_nil, fun _ h => by simp at h, fun _ _ _ h => by simp at h⟩
    · rw [if_neg h0]
      rcases h2 with rfl | ⟨a, y, m, rfl, rfl, hM, hD, hF, hL⟩
      · exact .inl rfl
      · have hup : ∀ u ∈ m, cls u ≤ cls c := fun u hu => by
          cases hp : p.getLast? with
          | none =>
            exfalso
            have hp0 : p = [] := List.getLast?_eq_none_iff.1 hp
            subst hp0
            have := h1.length
            have h5 := apL_ge (a ++ y :: m)
            rw [List.length_append, List.length_cons] at h5
            rw [List.length_nil] at this
            omega
          | some z =>
            have := hL z hp u hu
            have := hs z hp (by omega)
            omega
        refine .inr ⟨a, y, m ++ [c], by simp, rfl, hM.append (fun x hx => by simp at hx; subst hx; omega), sd_append.2 ⟨hD, sd_one c, fun x hx y hy => by simp at hy; subst hy; exact hup x hx⟩, fun z hz => ?_, fun z hz u hu => ?_⟩
        · rcases List.mem_append.1 hz with h | h
          · exact hF z h
          · simp at h; rw [h]; exact hc
        · rw [List.getLast?_append] at hz
          simp at hz
          subst hz
          rcases List.mem_append.1 hu with h | h
          · exact hup u h
          · simp at h; rw [h]; exact Int.le_refl _
theorem inv_go : ∀ (t p o : List Int) (s : Int), InvJ p o s → (∀ x ∈ t, pts x = []) → Srt (p ++ t) → InvJ (p ++ t) (goO t o s) (goS t o s)
  | [], p, o, s, h, _, _ => by simpa [goO, goS] using h
  | c :: t, p, o, s, h, hf, hs => by
    have e : p ++ c :: t = (p ++ [c]) ++ t := by simp
    rw [e]
    refine inv_go t (p ++ [c]) _ _ (h.step (hf c (by simp)) fun z hz hp => ?_) (fun x hx => hf x (by simp [hx])) (by rw [← e]; exact hs)
    obtain ⟨q, rfl⟩ := List.getLast?_eq_some_iff.1 hz
    exact hs q.length z c (by simp) (by simp) hp
/-- Taken apart, what is put together is what was handed in. -/
theorem nfc_back {d : List Int} (hf : ∀ x ∈ d, pts x = []) (hs : Srt d) : Ord (apL (nfc d)) d := by
  have h := inv_go d [] [] (-1) ⟨St.refl _, .inl rfl⟩ hf (by simpa using hs)
  exact ⟨h.1.symm, hs⟩
/-- Of any text: d is its form taken apart. -/
theorem ord_free {l d : List Int} (h : Ord (apL l) d) : ∀ x ∈ d, pts x = [] := fun x hx => apL_end (h.1.mem.1 hx)
theorem nfc_of {l d : List Int} (h : Ord (apL l) d) : Ord (apL (nfc d)) d := nfc_back (ord_free h) h.2
theorem nfd_of {l d : List Int} (h : Ord (apL l) d) : Ord (apL d) d := by
  rw [apL_free (ord_free h)]
  exact ord_self h.2
/-- Two are the same if and only if their forms are. -/
theorem nfc_inj {a b x y : List Int} (h : Ord (apL a) x) (g : Ord (apL b) y) : nfc x = nfc y ↔ x = y := by
  constructor
  · intro e
    have h1 := nfc_of h
    rw [e] at h1
    exact ord_one h1 (nfc_of g)
  · rintro rfl; rfl
theorem nfc_233 : nfc [101, 769] = [233] := by
  have c1 : cls 101 = 0 := by kernel_rfl
  have h1 : jnd [] (-1) 101 = false := by simp [jnd, rch]
  have h2 : nxt [] (-1) 101 = [101] := by unfold nxt; rw [h1]; rfl
  have h3 : nst [] (-1) 101 = 0 := by unfold nst; rw [h1]; simp [c1]
  have h4 : jnd [101] 0 769 = true := by
    unfold jnd
    have e : ([101] : List Int).getD (0 : Int).toNat 0 = 101 := rfl
    rw [e, jn_233.2]
    simp [rch]
  have h5 : nxt [101] 0 769 = [233] := by
    unfold nxt
    rw [h4, if_pos rfl]
    have e : ([101] : List Int).getD (0 : Int).toNat 0 = 101 := rfl
    rw [e, jn_233.1]
    rfl
  show nxt (nxt [] (-1) 101) (nst [] (-1) 101) 769 = [233]
  rw [h2, h3, h5]
end Go.Proofs.YtfgpgmfajjakpaaDoor.U
