/- What slices.symMergeCmpFunc makes of two sorted runs of marks side by side: one sorted run, stable. -/
import Derived.Test.YtfgpgmfajjakpaaDoorSym1
import Derived.Test.YtfgpgmfajjakpaaDoorSym2
import Derived.Test.YtfgpgmfajjakpaaDoorRot
namespace Go.Proofs.YtfgpgmfajjakpaaDoor.U
open Go.RowKit
set_option linter.unusedVariables false

def SymIs (n : Nat) : Prop := ∀ (base g off cap a m b N : Nat) (p x y q : List Int) (w0 w : World), In base w0 g off (p ++ (x ++ (y ++ q))) w → Lay p x y a m b → Mk (x ++ y) → Sd x → Sd y → a < m → m < b → b - a ≤ n →
    (p ++ (x ++ (y ++ q))).length = N → N ≤ 1099511627776 →
    Calls Tryd.prog 53 #[.slice (some ⟨g, off, none⟩) N cap, .int .i64 a, .int .i64 m, .int .i64 b, .func (.func 27) #[] #[]] w (Sorted base w0 g off p (x ++ y) q)
def S3Rel (base : Nat) (w0 : World) (g off n lo hi : Nat) (D : List Int) (i j : Value) (w : World) : Prop :=
  ∃ s r : Nat, i = .int .i64 s ∧ j = .int .i64 r ∧ lo ≤ s ∧ s ≤ r ∧ r ≤ hi ∧ Hid (Mid (kAt D) n lo hi s r) ∧ Hid (In base w0 g off D w)
/-- The first half is merged. -/
def Half (base : Nat) (w0 : World) (g off : Nat) (p x1 x2 y1 y2 q : List Int) (w : World) : Prop := ∃ s1, St (x1 ++ y1) s1 ∧ Sd s1 ∧ In base w0 g off (p ++ (s1 ++ (x2 ++ (y2 ++ q)))) w
def Whole (base : Nat) (w0 : World) (g off : Nat) (p x y q : List Int) (w : World) : Prop := ∃ s', St (x ++ y) s' ∧ Sd s' ∧ In base w0 g off (p ++ (s' ++ q)) w
def Ends (P : World → Prop) (e : Ending) (w : World) : Prop := e = .returned (.tuple #[]) ∧ P w

/-- What the walk's tail wants, once the search has found s. -/
structure Tail (base : Nat) (w0 : World) (g off cap N a m b mid E s : Nat) (p x y q D : List Int) (R1 : List Int) (H : World → Prop) : Prop where
  rot : s < m → s < mid → ∀ w', In base w0 g off D w' → Calls Tryd.prog 61 #[.slice (some ⟨g, off, none⟩) N cap, .int .i64 s, .int .i64 m, .int .i64 E, .func (.func 27) #[] #[]] w' (Ends (In base w0 g off R1))
  nrot : ¬ (s < m ∧ s < mid) → ∀ w', In base w0 g off D w' → In base w0 g off R1 w'
  one : a < s → s < mid → ∀ w', In base w0 g off R1 w' → Calls Tryd.prog 53 #[.slice (some ⟨g, off, none⟩) N cap, .int .i64 a, .int .i64 s, .int .i64 mid, .func (.func 27) #[] #[]] w' (Ends H)
  skip1 : ¬ (a < s ∧ s < mid) → ∀ w', In base w0 g off R1 w' → H w'
  two : s < m → E < b → ∀ w', H w' → Calls Tryd.prog 53 #[.slice (some ⟨g, off, none⟩) N cap, .int .i64 mid, .int .i64 E, .int .i64 b, .func (.func 27) #[] #[]] w' (Ends (Whole base w0 g off p x y q))
  ntwo : ¬ (s < m ∧ E < b) → ∀ w', H w' → Whole base w0 g off p x y q w'

theorem tail_of {base g off cap N a m b mid n lo hi s E fuel : Nat} {p x y q : List Int} {w0 : World} (HIH : SymIs fuel) (hL : Lay p x y a m b) (hM : Mk (x ++ y)) (hx : Sd x) (hy : Sd y) (ham : a + 1 < m) (hmb : m + 1 < b) (hf : b - a ≤ fuel + 1)
    (hmid : mid = (a + b) / 2) (hn : n = mid + m) (hlo : (mid < m ∧ lo + b = n ∧ hi = mid) ∨ (m ≤ mid ∧ lo = a ∧ hi = m)) (hs0 : lo ≤ s) (hs1 : s ≤ hi) (hMid : Mid (kAt (p ++ (x ++ (y ++ q)))) n lo hi s s) (hE : E + s = n)
    (hN : (p ++ (x ++ (y ++ q))).length = N) (hsz : N ≤ 1099511627776) :
    ∃ R1 H, Tail base w0 g off cap N a m b mid E s p x y q (p ++ (x ++ (y ++ q))) R1 H := by
  obtain ⟨hp, hm, hb⟩ := hL
  obtain ⟨x1, x2, ex, l1⟩ := cut_two (X := x) (j := s - a) (by omega)
  obtain ⟨y1, y2, ey, l2⟩ := cut_two (X := y) (j := E - m) (by omega)
  obtain ⟨h1, h2⟩ := mid_parts (q := q) ⟨hp, hm, hb⟩ hx hy (by omega) (by omega) hmid hn hlo hs0 hs1 hMid ex (by omega) ey (by omega)
  have lx : x1.length + x2.length = x.length := by rw [ex, List.length_append]
  have ly : y1.length + y2.length = y.length := by rw [ey, List.length_append]
  have hN' : p.length + x.length + y.length + q.length = N := by simp only [List.length_append] at hN; omega
  have hM' : Mk ((x1 ++ x2) ++ (y1 ++ y2)) := by rw [← ex, ← ey]; exact hM
  have hx' : Sd (x1 ++ x2) := by rw [← ex]; exact hx
  have hy' : Sd (y1 ++ y2) := by rw [← ey]; exact hy
  have eD : p ++ (x ++ (y ++ q)) = (p ++ x1) ++ (x2 ++ (y1 ++ (y2 ++ q))) := by rw [ex, ey]; simp
  have fin : ∀ s1 s2 w', St (x1 ++ y1) s1 → Sd s1 → St (x2 ++ y2) s2 → Sd s2 → In base w0 g off (p ++ (s1 ++ (s2 ++ q))) w' → Whole base w0 g off p x y q w' := fun s1 s2 w' t1 d1 t2 d2 hi => by
    obtain ⟨a1, a2⟩ := merge_two hM' hx' hy' h1 h2 t1 d1 t2 d2
    refine ⟨s1 ++ s2, by rw [ex, ey]; exact a1, a2, by simpa using hi⟩
  refine ⟨(p ++ x1) ++ (y1 ++ (x2 ++ (y2 ++ q))), Half base w0 g off p x1 x2 y1 y2 q, ⟨?_, ?_, ?_, ?_, ?_, ?_⟩⟩
  · intro c1 c2 w' hi
    rw [eD] at hi
    refine (rotate_is base g off cap s m E N (p ++ x1) x2 y1 (y2 ++ q) w0 w' _ hi (by rw [List.length_append]; omega) (by omega) (by omega) (by omega) (by omega) (by simp only [List.length_append]; omega) hsz).mono ?_
    rintro e w'' ⟨rfl, h⟩
    exact ⟨rfl, h⟩
  · intro c w' hi
    rw [eD] at hi
    by_cases c1 : s < m
    · obtain rfl : y1 = [] := List.eq_nil_of_length_eq_zero (by omega)
      simpa using hi
    · obtain rfl : x2 = [] := List.eq_nil_of_length_eq_zero (by omega)
      simpa using hi
  · intro c1 c2 w' hi
    refine (HIH base g off cap a s mid N p x1 y1 (x2 ++ (y2 ++ q)) w0 w' (by simpa using hi) ⟨hp, by omega, by omega⟩ (fun z hz => hM' z (by simp at hz ⊢; rcases hz with h | h <;> simp [h])) (sd_append.1 hx').1 (sd_append.1 hy').1 c1 c2 (by omega) (by simp only [List.length_append]; omega) hsz).mono ?_
    rintro e w'' ⟨rfl, s', t1, t2, t3⟩
    exact ⟨rfl, s', t1, t2, t3⟩
  · intro c w' hi
    refine ⟨x1 ++ y1, St.refl _, ?_, by simpa using hi⟩
    by_cases c1 : a < s
    · obtain rfl : y1 = [] := List.eq_nil_of_length_eq_zero (by omega)
      simpa using (sd_append.1 hx').1
    · obtain rfl : x1 = [] := List.eq_nil_of_length_eq_zero (by omega)
      simpa using (sd_append.1 hy').1
  · rintro c1 c2 w' ⟨s1, t1, d1, hi⟩
    have hl1 := t1.length
    rw [List.length_append] at hl1
    refine (HIH base g off cap mid E b N (p ++ s1) x2 y2 q w0 w' (by simpa using hi) ⟨by rw [List.length_append]; omega, by omega, by omega⟩ (fun z hz => hM' z (by simp at hz ⊢; rcases hz with h | h <;> simp [h])) (sd_append.1 hx').2.1 (sd_append.1 hy').2.1 (by omega) (by omega) (by omega) (by simp only [List.length_append]; omega) hsz).mono ?_
    rintro e w'' ⟨rfl, s2, t2, d2, hi2⟩
    exact ⟨rfl, fin s1 s2 w'' t1 d1 t2 d2 (by simpa using hi2)⟩
  · rintro c w' ⟨s1, t1, d1, hi⟩
    refine fin s1 (x2 ++ y2) w' t1 d1 (St.refl _) ?_ (by simpa using hi)
    by_cases c1 : s < m
    · obtain rfl : y2 = [] := List.eq_nil_of_length_eq_zero (by omega)
      simpa using (sd_append.1 hx').2.1
    · obtain rfl : x2 = [] := List.eq_nil_of_length_eq_zero (by omega)
      simpa using (sd_append.1 hy').2.1

set_option maxRecDepth 1000000 in
set_option maxHeartbeats 16000000 in
theorem sym3_is (fuel base g off cap a m b N : Nat) (p x y q : List Int) (w0 w : World) (HIH : SymIs fuel) (hI : In base w0 g off (p ++ (x ++ (y ++ q))) w) (hL : Lay p x y a m b) (hM : Mk (x ++ y)) (hx : Sd x) (hy : Sd y) (ham : a + 1 < m) (hmb : m + 1 < b) (hf : b - a ≤ fuel + 1)
    (hN : (p ++ (x ++ (y ++ q))).length = N) (hsz : N ≤ 1099511627776) :
    Calls Tryd.prog 53 #[.slice (some ⟨g, off, none⟩) N cap, .int .i64 a, .int .i64 m, .int .i64 b, .func (.func 27) #[] #[]] w (Sorted base w0 g off p (x ++ y) q) := by
  have eg := enters27
  have hmix := mixed
  have hbN : b ≤ N := by
    have h1 := hL.1
    have h2 := hL.2.1
    have h3 := hL.2.2
    simp only [List.length_append] at hN
    omega
  obtain ⟨mid, hmid⟩ : ∃ mid, mid = (a + b) / 2 := ⟨_, rfl⟩
  obtain ⟨n, hn⟩ : ∃ n, n = mid + m := ⟨_, rfl⟩
  have HT : Hid (∀ lo hi s E, ((mid < m ∧ lo + b = n ∧ hi = mid) ∨ (m ≤ mid ∧ lo = a ∧ hi = m)) → lo ≤ s → s ≤ hi → Mid (kAt (p ++ (x ++ (y ++ q)))) n lo hi s s → E + s = n → ∃ R1 H, Tail base w0 g off cap N a m b mid E s p x y q (p ++ (x ++ (y ++ q))) R1 H) :=
    Lib.hid fun lo hi s E h1 h2 h3 h4 h5 => tail_of HIH hL hM hx hy ham hmb hf hmid hn h1 h2 h3 h4 h5 hN hsz
  have HAX : Hid (∀ i, a ≤ i → i < m → ∃ z, (p ++ (x ++ (y ++ q)))[i]? = some z) := Lib.hid fun i h0 h1 => by
    obtain ⟨z, _, hz⟩ := hL.atx (q := q) h0 h1
    exact ⟨z, hz⟩
  have HAY : Hid (∀ i, m ≤ i → i < b → ∃ z, (p ++ (x ++ (y ++ q)))[i]? = some z) := Lib.hid fun i h0 h1 => by
    obtain ⟨z, _, hz⟩ := hL.aty (q := q) h0 h1
    exact ⟨z, hz⟩
  have HKX : Hid (∀ i j, a ≤ i → i ≤ j → j < m → kAt (p ++ (x ++ (y ++ q))) i ≤ kAt (p ++ (x ++ (y ++ q))) j) := Lib.hid fun i j h0 h1 h2 => hL.kx hx h0 h1 h2
  have HKY : Hid (∀ i j, m ≤ i → i ≤ j → j < b → kAt (p ++ (x ++ (y ++ q))) i ≤ kAt (p ++ (x ++ (y ++ q))) j) := Lib.hid fun i j h0 h1 h2 => hL.ky hy h0 h1 h2
  have HI := Lib.hid hI
  clear hI hL hM hx hy hN HIH hf
  generalize p ++ (x ++ (y ++ q)) = D at HT HAX HAY HKX HKY HI
  have h0 : a < mid := by omega
  have h1 : mid < b := by omega
  have em : ((a : Int) + (b : Int)) / 2 = (mid : Int) := by omega
  have en : (mid : Int) + (m : Int) = (n : Int) := by omega
  have z0 : ((m : Int) - (a : Int) == 1) = false := by simp; omega
  have z1 : ((b : Int) - (m : Int) == 1) = false := by simp; omega
  obtain ⟨P, hP⟩ : ∃ P, P + 1 = n := ⟨n - 1, by omega⟩
  have eP : (n : Int) - 1 = (P : Int) := by omega
  have HN0 := Lib.hid hn
  by_cases hgt : mid < m
  · obtain ⟨lo, hlo⟩ : ∃ lo, lo + b = n := ⟨n - b, by omega⟩
    obtain ⟨hi, hhi⟩ : ∃ hi, hi = mid := ⟨_, rfl⟩
    have el : (n : Int) - (b : Int) = (lo : Int) := by omega
    have q1 : (mid : Int) < (m : Int) := by omega
    have HB : Hid ((mid < m ∧ lo + b = n ∧ hi = mid) ∨ (m ≤ mid ∧ lo = a ∧ hi = m)) := Lib.hid (.inl ⟨hgt, hlo, hhi⟩)
    have ehi : (hi : Int) = (mid : Int) := by omega
    have b0 : a ≤ lo := by omega
    have b1 : lo ≤ hi := by omega
    have b2 : hi ≤ m := by omega
    have b3 : hi ≤ mid := by omega
    have b4 : n ≤ lo + b := by omega
    have HMI := Lib.hid hmid
    clear hmid hlo hhi hgt hn
    go_enter Tryd.func53, Tryd.ntmps53
    go_wp2
    go_loopw [20, 21] (fun i j wr => S3Rel base w0 g off n lo hi D i j wr) (fun i j _ => (intOf j).toNat - (intOf i).toNat)
    case atStart => exact ⟨lo, hi, rfl, by rw [ehi], Nat.le_refl _, b1, Nat.le_refl _, Lib.hid ⟨fun c h1 h2 => by omega, fun c h1 h2 => by omega⟩, HI⟩
    case round =>
      clear HI
      obtain ⟨s, r, rfl, rfl, hs0, hsr, hr1, HK, HIN⟩ := hrel
      have hn := HN0.out
      by_cases hlt : s < r
      · obtain ⟨c, hc⟩ : ∃ c, c = (s + r) / 2 := ⟨_, rfl⟩
        have c1 : s ≤ c := by omega
        have c2 : c < r := by omega
        have ec : ((s : Int) + (r : Int)) / 2 = (c : Int) := by omega
        obtain ⟨d, hd⟩ : ∃ d, d + c = P := ⟨P - c, by omega⟩
        have ed : (P : Int) - (c : Int) = (d : Int) := by omega
        have rd : IntKind.i64.wrap ((P : Int) - (c : Int)) = (d : Int) := by rw [IntKind.wrap_i64]; omega
        have rd2 : IntKind.i64.wrap (d : Int) = (d : Int) := by rw [IntKind.wrap_i64]; omega
        obtain ⟨zc, hzc⟩ := HAX.out c (by omega) (by omega)
        obtain ⟨zd, hzd⟩ := HAY.out d (by omega) (by omega)
        have HZC := Lib.hid (kAt_is hzc)
        have HZD := Lib.hid (kAt_is hzd)
        have la := HIN.out.cells hzd
        have lb := HIN.out.cells hzc
        obtain ⟨v, hv⟩ : ∃ v, cmpI (cls zd) (cls zc) = v := ⟨_, rfl⟩
        have hcc := HIN.out.comp zd zc v hv
        have ba : (d : Int) < (N : Int) := by omega
        have bc : (c : Int) < (N : Int) := by omega
        have pa : (0 : Int) ≤ (d : Int) := by omega
        have pc : (0 : Int) ≤ (c : Int) := by omega
        have HC2 : Hid (n - 1 - c = d) := Lib.hid (by omega)
        clear hzc hzd hc
        by_cases hlt2 : cls zd < cls zc
        · have hdv : v < 0 := by rw [← hv]; exact cmpI_neg.2 hlt2
          have hdd : decide (v < 0) = true := decide_eq_true hdv
          have HN1 : Hid (Mid (kAt D) n lo hi s c) := Lib.hid ⟨HK.out.1, fun t t0 t1 => by
            have k1 := HKX.out c t (by omega) t0 (by omega)
            have k2 := HKY.out (n - 1 - t) d (by omega) (by have := HC2.out; omega) (by omega)
            have k3 := HZC.out
            have k4 := HZD.out
            omega⟩
          clear hlt2 hv HK hd hn
          go_wp2_with fail
          go_quiet_grown (first | (go_at_fn 27; refine Calls.grown_of (hcc _ _)))
          have S2 : Hid (In base w0 g off D (Sort.grow (wr.drewN nq) osq)) := Lib.hid (HIN.out.gr ⟨nq, osq, rfl⟩)
          clear la lb hcc HIN
          generalize Sort.grow (wr.drewN nq) osq = w2 at S2 ⊢
          go_wp2
          go_roundw
          case rel => exact ⟨s, c, rfl, by go_num, hs0, by omega, by omega, HN1, S2⟩
          case measure => simp [intOf]; omega
        · have hdv : ¬ v < 0 := by rw [← hv]; exact fun h => hlt2 (cmpI_neg.1 h)
          have hdd : decide (v < 0) = false := decide_eq_false hdv
          have HN1 : Hid (Mid (kAt D) n lo hi (c + 1) r) := Lib.hid ⟨fun t t0 t1 => by
            have k1 := HKX.out t c (by omega) (by omega) (by omega)
            have k2 := HKY.out d (n - 1 - t) (by omega) (by have := HC2.out; omega) (by omega)
            have k3 := HZC.out
            have k4 := HZD.out
            omega, HK.out.2⟩
          clear hlt2 hv HK hd hn
          go_wp2_with fail
          go_quiet_grown (first | (go_at_fn 27; refine Calls.grown_of (hcc _ _)))
          have S2 : Hid (In base w0 g off D (Sort.grow (wr.drewN nq) osq)) := Lib.hid (HIN.out.gr ⟨nq, osq, rfl⟩)
          clear la lb hcc HIN
          generalize Sort.grow (wr.drewN nq) osq = w2 at S2 ⊢
          go_wp2
          go_roundw
          case rel => exact ⟨c + 1, r, by go_num, rfl, by omega, by omega, hr1, HN1, S2⟩
          case measure => simp [intOf]; omega
      · obtain rfl : s = r := by omega
        obtain ⟨E, hE⟩ : ∃ E, E + s = n := ⟨n - s, by omega⟩
        have eE : (n : Int) - (s : Int) = (E : Int) := by omega
        obtain ⟨R1, H, hTl⟩ := HT.out lo hi s E HB.out hs0 hr1 HK.out hE
        have TL := Lib.hid hTl
        have e1 : s ≤ m := by omega
        have e2 : s ≤ mid := by omega
        have e3 : a ≤ s := by omega
        have e4 : E ≤ b := by omega
        have e5 : (m : Int) < (E : Int) ↔ s < mid := by omega
        have e6 : (mid : Int) < (E : Int) ↔ s < m := by omega
        clear hTl HT HK HAX HAY HKX HKY HB el ehi hn
        generalize wr = wo at HIN ⊢
        clear wr
        have hnlt : ¬ (s : Int) < (s : Int) := by omega
        by_cases cA : s < m
        · by_cases cB : s < mid
          · by_cases cC : a < s
            · by_cases cD : E < b
              · have k1 : (s : Int) < (m : Int) := by omega
                have k2 : (m : Int) < (E : Int) := by rw [e5]; omega
                have k3 : (a : Int) < (s : Int) := by omega
                have k4 : (s : Int) < (mid : Int) := by omega
                have k5 : (mid : Int) < (E : Int) := by rw [e6]; omega
                have k6 : (E : Int) < (b : Int) := by omega
                clear e5 e6
                have HQ := Lib.hid (TL.out.rot cA cB wo HIN.out)
                go_wp2_with fail
                with_reducible refine HQ.out.mono ?_
                rintro e' w1 ⟨rfl, hr⟩
                have HR := Lib.hid hr
                clear hr HQ
                have HQ2 := Lib.hid (TL.out.one cC cB w1 HR.out)
                go_wp2_with fail
                with_reducible refine HQ2.out.mono ?_
                rintro e' w2 ⟨rfl, hr⟩
                have HH := Lib.hid hr
                clear hr HQ2
                have HQ3 := Lib.hid (TL.out.two cA cD w2 HH.out)
                go_wp2_with fail
                with_reducible refine HQ3.out.mono ?_
                rintro e' w3 ⟨rfl, hr⟩
                have HF := Lib.hid hr
                clear hr HQ3
                go_wp2
                all_goals go_end0
                all_goals exact ⟨rfl, HF.out⟩
              · have k1 : (s : Int) < (m : Int) := by omega
                have k2 : (m : Int) < (E : Int) := by rw [e5]; omega
                have k3 : (a : Int) < (s : Int) := by omega
                have k4 : (s : Int) < (mid : Int) := by omega
                have k5 : (mid : Int) < (E : Int) := by rw [e6]; omega
                have k6 : ¬ (E : Int) < (b : Int) := by omega
                clear e5 e6
                have HQ := Lib.hid (TL.out.rot cA cB wo HIN.out)
                go_wp2_with fail
                with_reducible refine HQ.out.mono ?_
                rintro e' w1 ⟨rfl, hr⟩
                have HR := Lib.hid hr
                clear hr HQ
                have HQ2 := Lib.hid (TL.out.one cC cB w1 HR.out)
                go_wp2_with fail
                with_reducible refine HQ2.out.mono ?_
                rintro e' w2 ⟨rfl, hr⟩
                have HH := Lib.hid hr
                clear hr HQ2
                have HF := Lib.hid (TL.out.ntwo (fun h => by omega) w2 HH.out)
                go_wp2
                all_goals go_end0
                all_goals exact ⟨rfl, HF.out⟩
            · by_cases cD : E < b
              · have k1 : (s : Int) < (m : Int) := by omega
                have k2 : (m : Int) < (E : Int) := by rw [e5]; omega
                have k3 : ¬ (a : Int) < (s : Int) := by omega
                have k4 : (s : Int) < (mid : Int) := by omega
                have k5 : (mid : Int) < (E : Int) := by rw [e6]; omega
                have k6 : (E : Int) < (b : Int) := by omega
                clear e5 e6
                have HQ := Lib.hid (TL.out.rot cA cB wo HIN.out)
                go_wp2_with fail
                with_reducible refine HQ.out.mono ?_
                rintro e' w1 ⟨rfl, hr⟩
                have HR := Lib.hid hr
                clear hr HQ
                have HH := Lib.hid (TL.out.skip1 (fun h => by omega) w1 HR.out)
                have HQ3 := Lib.hid (TL.out.two cA cD w1 HH.out)
                go_wp2_with fail
                with_reducible refine HQ3.out.mono ?_
                rintro e' w3 ⟨rfl, hr⟩
                have HF := Lib.hid hr
                clear hr HQ3
                go_wp2
                all_goals go_end0
                all_goals exact ⟨rfl, HF.out⟩
              · have k1 : (s : Int) < (m : Int) := by omega
                have k2 : (m : Int) < (E : Int) := by rw [e5]; omega
                have k3 : ¬ (a : Int) < (s : Int) := by omega
                have k4 : (s : Int) < (mid : Int) := by omega
                have k5 : (mid : Int) < (E : Int) := by rw [e6]; omega
                have k6 : ¬ (E : Int) < (b : Int) := by omega
                clear e5 e6
                have HQ := Lib.hid (TL.out.rot cA cB wo HIN.out)
                go_wp2_with fail
                with_reducible refine HQ.out.mono ?_
                rintro e' w1 ⟨rfl, hr⟩
                have HR := Lib.hid hr
                clear hr HQ
                have HH := Lib.hid (TL.out.skip1 (fun h => by omega) w1 HR.out)
                have HF := Lib.hid (TL.out.ntwo (fun h => by omega) w1 HH.out)
                go_wp2
                all_goals go_end0
                all_goals exact ⟨rfl, HF.out⟩
          · by_cases cC : a < s
            · by_cases cD : E < b
              · have k1 : (s : Int) < (m : Int) := by omega
                have k2 : ¬ (m : Int) < (E : Int) := by rw [e5]; omega
                have k3 : (a : Int) < (s : Int) := by omega
                have k4 : ¬ (s : Int) < (mid : Int) := by omega
                have k5 : (mid : Int) < (E : Int) := by rw [e6]; omega
                have k6 : (E : Int) < (b : Int) := by omega
                clear e5 e6
                have HR := Lib.hid (TL.out.nrot (fun h => by omega) wo HIN.out)
                have HH := Lib.hid (TL.out.skip1 (fun h => by omega) wo HR.out)
                have HQ3 := Lib.hid (TL.out.two cA cD wo HH.out)
                go_wp2_with fail
                with_reducible refine HQ3.out.mono ?_
                rintro e' w3 ⟨rfl, hr⟩
                have HF := Lib.hid hr
                clear hr HQ3
                go_wp2
                all_goals go_end0
                all_goals exact ⟨rfl, HF.out⟩
              · exfalso; omega
            · by_cases cD : E < b
              · exfalso; omega
              · exfalso; omega
        · by_cases cB : s < mid
          · by_cases cC : a < s
            · by_cases cD : E < b
              · have k1 : ¬ (s : Int) < (m : Int) := by omega
                have k2 : (m : Int) < (E : Int) := by rw [e5]; omega
                have k3 : (a : Int) < (s : Int) := by omega
                have k4 : (s : Int) < (mid : Int) := by omega
                have k5 : ¬ (mid : Int) < (E : Int) := by rw [e6]; omega
                have k6 : (E : Int) < (b : Int) := by omega
                clear e5 e6
                have HR := Lib.hid (TL.out.nrot (fun h => by omega) wo HIN.out)
                have HQ2 := Lib.hid (TL.out.one cC cB wo HR.out)
                go_wp2_with fail
                with_reducible refine HQ2.out.mono ?_
                rintro e' w2 ⟨rfl, hr⟩
                have HH := Lib.hid hr
                clear hr HQ2
                have HF := Lib.hid (TL.out.ntwo (fun h => by omega) w2 HH.out)
                go_wp2
                all_goals go_end0
                all_goals exact ⟨rfl, HF.out⟩
              · exfalso; omega
            · by_cases cD : E < b
              · exfalso; omega
              · exfalso; omega
          · by_cases cC : a < s
            · by_cases cD : E < b
              · have k1 : ¬ (s : Int) < (m : Int) := by omega
                have k2 : ¬ (m : Int) < (E : Int) := by rw [e5]; omega
                have k3 : (a : Int) < (s : Int) := by omega
                have k4 : ¬ (s : Int) < (mid : Int) := by omega
                have k5 : ¬ (mid : Int) < (E : Int) := by rw [e6]; omega
                have k6 : (E : Int) < (b : Int) := by omega
                clear e5 e6
                have HR := Lib.hid (TL.out.nrot (fun h => by omega) wo HIN.out)
                have HH := Lib.hid (TL.out.skip1 (fun h => by omega) wo HR.out)
                have HF := Lib.hid (TL.out.ntwo (fun h => by omega) wo HH.out)
                go_wp2
                all_goals go_end0
                all_goals exact ⟨rfl, HF.out⟩
              · exfalso; omega
            · by_cases cD : E < b
              · exfalso; omega
              · exfalso; omega
  · obtain ⟨lo, hlo⟩ : ∃ lo, lo = a := ⟨_, rfl⟩
    obtain ⟨hi, hhi⟩ : ∃ hi, hi = m := ⟨_, rfl⟩
    have el : (lo : Int) = (a : Int) := by omega
    have q1 : ¬ (mid : Int) < (m : Int) := by omega
    have HB : Hid ((mid < m ∧ lo + b = n ∧ hi = mid) ∨ (m ≤ mid ∧ lo = a ∧ hi = m)) := Lib.hid (.inr ⟨by omega, hlo, hhi⟩)
    have ehi : (hi : Int) = (m : Int) := by omega
    have b0 : a ≤ lo := by omega
    have b1 : lo ≤ hi := by omega
    have b2 : hi ≤ m := by omega
    have b3 : hi ≤ mid := by omega
    have b4 : n ≤ lo + b := by omega
    have HMI := Lib.hid hmid
    clear hmid hlo hhi hgt hn
    go_enter Tryd.func53, Tryd.ntmps53
    go_wp2
    go_loopw [20, 21] (fun i j wr => S3Rel base w0 g off n lo hi D i j wr) (fun i j _ => (intOf j).toNat - (intOf i).toNat)
    case atStart => exact ⟨lo, hi, by rw [el], by rw [ehi], Nat.le_refl _, b1, Nat.le_refl _, Lib.hid ⟨fun c h1 h2 => by omega, fun c h1 h2 => by omega⟩, HI⟩
    case round =>
      clear HI
      obtain ⟨s, r, rfl, rfl, hs0, hsr, hr1, HK, HIN⟩ := hrel
      have hn := HN0.out
      by_cases hlt : s < r
      · obtain ⟨c, hc⟩ : ∃ c, c = (s + r) / 2 := ⟨_, rfl⟩
        have c1 : s ≤ c := by omega
        have c2 : c < r := by omega
        have ec : ((s : Int) + (r : Int)) / 2 = (c : Int) := by omega
        obtain ⟨d, hd⟩ : ∃ d, d + c = P := ⟨P - c, by omega⟩
        have ed : (P : Int) - (c : Int) = (d : Int) := by omega
        have rd : IntKind.i64.wrap ((P : Int) - (c : Int)) = (d : Int) := by rw [IntKind.wrap_i64]; omega
        have rd2 : IntKind.i64.wrap (d : Int) = (d : Int) := by rw [IntKind.wrap_i64]; omega
        obtain ⟨zc, hzc⟩ := HAX.out c (by omega) (by omega)
        obtain ⟨zd, hzd⟩ := HAY.out d (by omega) (by omega)
        have HZC := Lib.hid (kAt_is hzc)
        have HZD := Lib.hid (kAt_is hzd)
        have la := HIN.out.cells hzd
        have lb := HIN.out.cells hzc
        obtain ⟨v, hv⟩ : ∃ v, cmpI (cls zd) (cls zc) = v := ⟨_, rfl⟩
        have hcc := HIN.out.comp zd zc v hv
        have ba : (d : Int) < (N : Int) := by omega
        have bc : (c : Int) < (N : Int) := by omega
        have pa : (0 : Int) ≤ (d : Int) := by omega
        have pc : (0 : Int) ≤ (c : Int) := by omega
        have HC2 : Hid (n - 1 - c = d) := Lib.hid (by omega)
        clear hzc hzd hc
        by_cases hlt2 : cls zd < cls zc
        · have hdv : v < 0 := by rw [← hv]; exact cmpI_neg.2 hlt2
          have hdd : decide (v < 0) = true := decide_eq_true hdv
          have HN1 : Hid (Mid (kAt D) n lo hi s c) := Lib.hid ⟨HK.out.1, fun t t0 t1 => by
            have k1 := HKX.out c t (by omega) t0 (by omega)
            have k2 := HKY.out (n - 1 - t) d (by omega) (by have := HC2.out; omega) (by omega)
            have k3 := HZC.out
            have k4 := HZD.out
            omega⟩
          clear hlt2 hv HK hd hn
          go_wp2_with fail
          go_quiet_grown (first | (go_at_fn 27; refine Calls.grown_of (hcc _ _)))
          have S2 : Hid (In base w0 g off D (Sort.grow (wr.drewN nq) osq)) := Lib.hid (HIN.out.gr ⟨nq, osq, rfl⟩)
          clear la lb hcc HIN
          generalize Sort.grow (wr.drewN nq) osq = w2 at S2 ⊢
          go_wp2
          go_roundw
          case rel => exact ⟨s, c, rfl, by go_num, hs0, by omega, by omega, HN1, S2⟩
          case measure => simp [intOf]; omega
        · have hdv : ¬ v < 0 := by rw [← hv]; exact fun h => hlt2 (cmpI_neg.1 h)
          have hdd : decide (v < 0) = false := decide_eq_false hdv
          have HN1 : Hid (Mid (kAt D) n lo hi (c + 1) r) := Lib.hid ⟨fun t t0 t1 => by
            have k1 := HKX.out t c (by omega) (by omega) (by omega)
            have k2 := HKY.out d (n - 1 - t) (by omega) (by have := HC2.out; omega) (by omega)
            have k3 := HZC.out
            have k4 := HZD.out
            omega, HK.out.2⟩
          clear hlt2 hv HK hd hn
          go_wp2_with fail
          go_quiet_grown (first | (go_at_fn 27; refine Calls.grown_of (hcc _ _)))
          have S2 : Hid (In base w0 g off D (Sort.grow (wr.drewN nq) osq)) := Lib.hid (HIN.out.gr ⟨nq, osq, rfl⟩)
          clear la lb hcc HIN
          generalize Sort.grow (wr.drewN nq) osq = w2 at S2 ⊢
          go_wp2
          go_roundw
          case rel => exact ⟨c + 1, r, by go_num, rfl, by omega, by omega, hr1, HN1, S2⟩
          case measure => simp [intOf]; omega
      · obtain rfl : s = r := by omega
        obtain ⟨E, hE⟩ : ∃ E, E + s = n := ⟨n - s, by omega⟩
        have eE : (n : Int) - (s : Int) = (E : Int) := by omega
        obtain ⟨R1, H, hTl⟩ := HT.out lo hi s E HB.out hs0 hr1 HK.out hE
        have TL := Lib.hid hTl
        have e1 : s ≤ m := by omega
        have e2 : s ≤ mid := by omega
        have e3 : a ≤ s := by omega
        have e4 : E ≤ b := by omega
        have e5 : (m : Int) < (E : Int) ↔ s < mid := by omega
        have e6 : (mid : Int) < (E : Int) ↔ s < m := by omega
        clear hTl HT HK HAX HAY HKX HKY HB el ehi hn
        generalize wr = wo at HIN ⊢
        clear wr
        have hnlt : ¬ (s : Int) < (s : Int) := by omega
        by_cases cA : s < m
        · by_cases cB : s < mid
          · by_cases cC : a < s
            · by_cases cD : E < b
              · have k1 : (s : Int) < (m : Int) := by omega
                have k2 : (m : Int) < (E : Int) := by rw [e5]; omega
                have k3 : (a : Int) < (s : Int) := by omega
                have k4 : (s : Int) < (mid : Int) := by omega
                have k5 : (mid : Int) < (E : Int) := by rw [e6]; omega
                have k6 : (E : Int) < (b : Int) := by omega
                clear e5 e6
                have HQ := Lib.hid (TL.out.rot cA cB wo HIN.out)
                go_wp2_with fail
                with_reducible refine HQ.out.mono ?_
                rintro e' w1 ⟨rfl, hr⟩
                have HR := Lib.hid hr
                clear hr HQ
                have HQ2 := Lib.hid (TL.out.one cC cB w1 HR.out)
                go_wp2_with fail
                with_reducible refine HQ2.out.mono ?_
                rintro e' w2 ⟨rfl, hr⟩
                have HH := Lib.hid hr
                clear hr HQ2
                have HQ3 := Lib.hid (TL.out.two cA cD w2 HH.out)
                go_wp2_with fail
                with_reducible refine HQ3.out.mono ?_
                rintro e' w3 ⟨rfl, hr⟩
                have HF := Lib.hid hr
                clear hr HQ3
                go_wp2
                all_goals go_end0
                all_goals exact ⟨rfl, HF.out⟩
              · have k1 : (s : Int) < (m : Int) := by omega
                have k2 : (m : Int) < (E : Int) := by rw [e5]; omega
                have k3 : (a : Int) < (s : Int) := by omega
                have k4 : (s : Int) < (mid : Int) := by omega
                have k5 : (mid : Int) < (E : Int) := by rw [e6]; omega
                have k6 : ¬ (E : Int) < (b : Int) := by omega
                clear e5 e6
                have HQ := Lib.hid (TL.out.rot cA cB wo HIN.out)
                go_wp2_with fail
                with_reducible refine HQ.out.mono ?_
                rintro e' w1 ⟨rfl, hr⟩
                have HR := Lib.hid hr
                clear hr HQ
                have HQ2 := Lib.hid (TL.out.one cC cB w1 HR.out)
                go_wp2_with fail
                with_reducible refine HQ2.out.mono ?_
                rintro e' w2 ⟨rfl, hr⟩
                have HH := Lib.hid hr
                clear hr HQ2
                have HF := Lib.hid (TL.out.ntwo (fun h => by omega) w2 HH.out)
                go_wp2
                all_goals go_end0
                all_goals exact ⟨rfl, HF.out⟩
            · by_cases cD : E < b
              · have k1 : (s : Int) < (m : Int) := by omega
                have k2 : (m : Int) < (E : Int) := by rw [e5]; omega
                have k3 : ¬ (a : Int) < (s : Int) := by omega
                have k4 : (s : Int) < (mid : Int) := by omega
                have k5 : (mid : Int) < (E : Int) := by rw [e6]; omega
                have k6 : (E : Int) < (b : Int) := by omega
                clear e5 e6
                have HQ := Lib.hid (TL.out.rot cA cB wo HIN.out)
                go_wp2_with fail
                with_reducible refine HQ.out.mono ?_
                rintro e' w1 ⟨rfl, hr⟩
                have HR := Lib.hid hr
                clear hr HQ
                have HH := Lib.hid (TL.out.skip1 (fun h => by omega) w1 HR.out)
                have HQ3 := Lib.hid (TL.out.two cA cD w1 HH.out)
                go_wp2_with fail
                with_reducible refine HQ3.out.mono ?_
                rintro e' w3 ⟨rfl, hr⟩
                have HF := Lib.hid hr
                clear hr HQ3
                go_wp2
                all_goals go_end0
                all_goals exact ⟨rfl, HF.out⟩
              · have k1 : (s : Int) < (m : Int) := by omega
                have k2 : (m : Int) < (E : Int) := by rw [e5]; omega
                have k3 : ¬ (a : Int) < (s : Int) := by omega
                have k4 : (s : Int) < (mid : Int) := by omega
                have k5 : (mid : Int) < (E : Int) := by rw [e6]; omega
                have k6 : ¬ (E : Int) < (b : Int) := by omega
                clear e5 e6
                have HQ := Lib.hid (TL.out.rot cA cB wo HIN.out)
                go_wp2_with fail
                with_reducible refine HQ.out.mono ?_
                rintro e' w1 ⟨rfl, hr⟩
                have HR := Lib.hid hr
                clear hr HQ
                have HH := Lib.hid (TL.out.skip1 (fun h => by omega) w1 HR.out)
                have HF := Lib.hid (TL.out.ntwo (fun h => by omega) w1 HH.out)
                go_wp2
                all_goals go_end0
                all_goals exact ⟨rfl, HF.out⟩
          · by_cases cC : a < s
            · by_cases cD : E < b
              · have k1 : (s : Int) < (m : Int) := by omega
                have k2 : ¬ (m : Int) < (E : Int) := by rw [e5]; omega
                have k3 : (a : Int) < (s : Int) := by omega
                have k4 : ¬ (s : Int) < (mid : Int) := by omega
                have k5 : (mid : Int) < (E : Int) := by rw [e6]; omega
                have k6 : (E : Int) < (b : Int) := by omega
                clear e5 e6
                have HR := Lib.hid (TL.out.nrot (fun h => by omega) wo HIN.out)
                have HH := Lib.hid (TL.out.skip1 (fun h => by omega) wo HR.out)
                have HQ3 := Lib.hid (TL.out.two cA cD wo HH.out)
                go_wp2_with fail
                with_reducible refine HQ3.out.mono ?_
                rintro e' w3 ⟨rfl, hr⟩
                have HF := Lib.hid hr
                clear hr HQ3
                go_wp2
                all_goals go_end0
                all_goals exact ⟨rfl, HF.out⟩
              · exfalso; omega
            · by_cases cD : E < b
              · exfalso; omega
              · exfalso; omega
        · by_cases cB : s < mid
          · by_cases cC : a < s
            · by_cases cD : E < b
              · have k1 : ¬ (s : Int) < (m : Int) := by omega
                have k2 : (m : Int) < (E : Int) := by rw [e5]; omega
                have k3 : (a : Int) < (s : Int) := by omega
                have k4 : (s : Int) < (mid : Int) := by omega
                have k5 : ¬ (mid : Int) < (E : Int) := by rw [e6]; omega
                have k6 : (E : Int) < (b : Int) := by omega
                clear e5 e6
                have HR := Lib.hid (TL.out.nrot (fun h => by omega) wo HIN.out)
                have HQ2 := Lib.hid (TL.out.one cC cB wo HR.out)
                go_wp2_with fail
                with_reducible refine HQ2.out.mono ?_
                rintro e' w2 ⟨rfl, hr⟩
                have HH := Lib.hid hr
                clear hr HQ2
                have HF := Lib.hid (TL.out.ntwo (fun h => by omega) w2 HH.out)
                go_wp2
                all_goals go_end0
                all_goals exact ⟨rfl, HF.out⟩
              · exfalso; omega
            · by_cases cD : E < b
              · exfalso; omega
              · exfalso; omega
          · by_cases cC : a < s
            · by_cases cD : E < b
              · have k1 : ¬ (s : Int) < (m : Int) := by omega
                have k2 : ¬ (m : Int) < (E : Int) := by rw [e5]; omega
                have k3 : (a : Int) < (s : Int) := by omega
                have k4 : ¬ (s : Int) < (mid : Int) := by omega
                have k5 : ¬ (mid : Int) < (E : Int) := by rw [e6]; omega
                have k6 : (E : Int) < (b : Int) := by omega
                clear e5 e6
                have HR := Lib.hid (TL.out.nrot (fun h => by omega) wo HIN.out)
                have HH := Lib.hid (TL.out.skip1 (fun h => by omega) wo HR.out)
                have HF := Lib.hid (TL.out.ntwo (fun h => by omega) wo HH.out)
                go_wp2
                all_goals go_end0
                all_goals exact ⟨rfl, HF.out⟩
              · exfalso; omega
            · by_cases cD : E < b
              · exfalso; omega
              · exfalso; omega

/-- Two sorted runs of marks side by side, at whatever lengths. -/
theorem sym_all : ∀ n, SymIs n := by
  intro n
  induction n with
  | zero => intro base g off cap a m b N p x y q w0 w hI hL hM hx hy ham hmb hf hN hs; omega
  | succ n ih =>
    intro base g off cap a m b N p x y q w0 w hI hL hM hx hy ham hmb hf hN hs
    have h1 := hL.2.1
    have h2 := hL.2.2
    by_cases c1 : m = a + 1
    · obtain ⟨u, rfl⟩ : ∃ u, x = [u] := List.length_eq_one_iff.1 (by omega)
      exact sym1_is base g off cap a m b N p y q u w0 w hI hL hM hy hmb hN hs
    · by_cases c2 : b = m + 1
      · obtain ⟨v, rfl⟩ : ∃ u, y = [u] := List.length_eq_one_iff.1 (by omega)
        exact sym2_is base g off cap a m b N p x q v w0 w hI hL hM hx (by omega) hN hs
      · exact sym3_is n base g off cap a m b N p x y q w0 w ih hI hL hM hx hy (by omega) (by omega) hf hN hs
end Go.Proofs.YtfgpgmfajjakpaaDoor.U
