/- What slices.symMergeCmpFunc makes of two sorted runs of marks side by side: one sorted run, stable. What slices.stableCmpFunc and slices.SortStableFunc make of a row of marks: it is sorted, stable, at whatever length up to 2^40. What nfd.countMarks and nfd.Order answer: a new list, marks side by side sorted by their classes, stable. What the reference's spans and Class answer. What the reference's Class answers: the same class. What the reference's Order answers: the same list as nfd.Order. What slices.Equal and the reference's Split answer. What nfd.NFD and nfd.Is answer, and the law's own 'answers'. -/
import Derived.Test.YtipigfgnpfhdbaaGreatDoorM11
import Derived.Test.YtipigfgnpfhdbaaGreatDoorM10
import Derived.Test.YtipigfgnpfhdbaaGreatDoorM8
import Derived.Deep.LoopGhost
namespace Go.Proofs.YtipigfgnpfhdbaaGreatDoor.F
open Go.RowKit U
set_option linter.unusedVariables false

def SymIs (n : Nat) : Prop := ∀ (base g off cap a m b N : Nat) (p x y q : List Int) (w0 w : World), In base w0 g off (p ++ (x ++ (y ++ q))) w → Lay p x y a m b → Mk (x ++ y) → Sd x → Sd y → a < m → m < b → b - a ≤ n →
    (p ++ (x ++ (y ++ q))).length = N → N ≤ 1099511627776 →
    Calls Tryz.prog 149 #[.slice (some ⟨g, off, none⟩) N cap, .int .i64 a, .int .i64 m, .int .i64 b, .func (.func 104) #[] #[]] w (Sorted base w0 g off p (x ++ y) q)
def S3Rel (base : Nat) (w0 : World) (g off n lo hi : Nat) (D : List Int) (i j : Value) (w : World) : Prop :=
  ∃ s r : Nat, i = .int .i64 s ∧ j = .int .i64 r ∧ lo ≤ s ∧ s ≤ r ∧ r ≤ hi ∧ Hid (Mid (kAt D) n lo hi s r) ∧ Hid (In base w0 g off D w)
/-- The first half is merged. -/
def Half (base : Nat) (w0 : World) (g off : Nat) (p x1 x2 y1 y2 q : List Int) (w : World) : Prop := ∃ s1, St (x1 ++ y1) s1 ∧ Sd s1 ∧ In base w0 g off (p ++ (s1 ++ (x2 ++ (y2 ++ q)))) w
def Whole (base : Nat) (w0 : World) (g off : Nat) (p x y q : List Int) (w : World) : Prop := ∃ s', St (x ++ y) s' ∧ Sd s' ∧ In base w0 g off (p ++ (s' ++ q)) w
def Ends (P : World → Prop) (e : Ending) (w : World) : Prop := e = .returned (.tuple #[]) ∧ P w

/-- What the walk's tail wants, once the search has found s. -/
structure Tail (base : Nat) (w0 : World) (g off cap N a m b mid E s : Nat) (p x y q D : List Int) (R1 : List Int) (H : World → Prop) : Prop where
  rot : s < m → s < mid → ∀ w', In base w0 g off D w' → Calls Tryz.prog 163 #[.slice (some ⟨g, off, none⟩) N cap, .int .i64 s, .int .i64 m, .int .i64 E, .func (.func 104) #[] #[]] w' (Ends (In base w0 g off R1))
  nrot : ¬ (s < m ∧ s < mid) → ∀ w', In base w0 g off D w' → In base w0 g off R1 w'
  one : a < s → s < mid → ∀ w', In base w0 g off R1 w' → Calls Tryz.prog 149 #[.slice (some ⟨g, off, none⟩) N cap, .int .i64 a, .int .i64 s, .int .i64 mid, .func (.func 104) #[] #[]] w' (Ends H)
  skip1 : ¬ (a < s ∧ s < mid) → ∀ w', In base w0 g off R1 w' → H w'
  two : s < m → E < b → ∀ w', H w' → Calls Tryz.prog 149 #[.slice (some ⟨g, off, none⟩) N cap, .int .i64 mid, .int .i64 E, .int .i64 b, .func (.func 104) #[] #[]] w' (Ends (Whole base w0 g off p x y q))
  ntwo : ¬ (s < m ∧ E < b) → ∀ w', H w' → Whole base w0 g off p x y q w'

theorem tail_of {base g off cap N a m b mid n lo hi s E fuel : Nat} {p x y q : List Int} {w0 : World} (HIH : SymIs fuel) (hL : Lay p x y a m b) (hM : Mk (x ++ y)) (hx : Sd x) (hy : Sd y) (ham : a + 1 < m) (hmb : m + 1 < b) (hf : b - a ≤ fuel + 1)
    (hmid : mid = (a + b) / 2) (hn : n = mid + m) (hlo : (mid < m ∧ lo + b = n ∧ hi = mid) ∨ (m ≤ mid ∧ lo = a ∧ hi = m)) (hs0 : lo ≤ s) (hs1 : s ≤ hi) (hMid : Mid (kAt (p ++ (x ++ (y ++ q)))) n lo hi s s) (hE : E + s = n)
    (hN : (p ++ (x ++ (y ++ q))).length = N) (hsz : N ≤ 1099511627776) :
    ∃ R1 H, Tail base w0 g off cap N a m b mid E s p x y q (p ++ (x ++ (y ++ q))) R1 H := by
  obtain ⟨hp, hm, hb⟩ := hL
  obtain ⟨x1, x2, ex, l1⟩ := cut_two (X := x) (j := s - a) (by omega)
  obtain ⟨y1, y2, ey, l2⟩ := cut_two (X := y) (j := E - m) (by omega)
  obtain ⟨h1, h2⟩ := mid_parts (q := q) ⟨hp, hm, hb⟩ hx hy (by omega) (by omega) hmid hn hlo hs0 hs1 hMid ex (by omega) ey (by omega)
  have lx : x1.length + x2.length = x.length := by rw [ex, List.length_append]
  have ly : y1.length + y2.length = y.length := by rw [ey, List.length_append]
  have hN' : p.length + x.length + y.length + q.length = N := by simp only [List.length_append] at hN; omega
  have hM' : Mk ((x1 ++ x2) ++ (y1 ++ y2)) := by rw [← ex, ← ey]; exact hM
  have hx' : Sd (x1 ++ x2) := by rw [← ex]; exact hx
  have hy' : Sd (y1 ++ y2) := by rw [← ey]; exact hy
  have eD : p ++ (x ++ (y ++ q)) = (p ++ x1) ++ (x2 ++ (y1 ++ (y2 ++ q))) := by rw [ex, ey]; simp
  have fin : ∀ s1 s2 w', St (x1 ++ y1) s1 → Sd s1 → St (x2 ++ y2) s2 → Sd s2 → In base w0 g off (p ++ (s1 ++ (s2 ++ q))) w' → Whole base w0 g off p x y q w' := fun s1 s2 w' t1 d1 t2 d2 hi => by
    obtain ⟨a1, a2⟩ := merge_two hM' hx' hy' h1 h2 t1 d1 t2 d2
    refine ⟨s1 ++ s2, by rw [ex, ey]; exact a1, a2, by simpa using hi⟩
  refine ⟨(p ++ x1) ++ (y1 ++ (x2 ++ (y2 ++ q))), Half base w0 g off p x1 x2 y1 y2 q, ⟨?_, ?_, ?_, ?_, ?_, ?_⟩⟩
  · intro c1 c2 w' hi
    rw [eD] at hi
    refine (rotate_is base g off cap s m E N (p ++ x1) x2 y1 (y2 ++ q) w0 w' _ hi (by rw [List.length_append]; omega) (by omega) (by omega) (by omega) (by omega) (by simp only [List.length_append]; omega) hsz).mono ?_
    rintro e w'' ⟨rfl, h⟩
    exact ⟨rfl, h⟩
  · intro c w' hi
    rw [eD] at hi
    by_cases c1 : s < m
    · obtain rfl : y1 = [] := List.eq_nil_of_length_eq_zero (by omega)
      simpa using hi
    · obtain rfl : x2 = [] := List.eq_nil_of_length_eq_zero (by omega)
      simpa using hi
  · intro c1 c2 w' hi
    refine (HIH base g off cap a s mid N p x1 y1 (x2 ++ (y2 ++ q)) w0 w' (by simpa using hi) ⟨hp, by omega, by omega⟩ (fun z hz => hM' z (by simp at hz ⊢; rcases hz with h | h <;> simp [h])) (sd_append.1 hx').1 (sd_append.1 hy').1 c1 c2 (by omega) (by simp only [List.length_append]; omega) hsz).mono ?_
    rintro e w'' ⟨rfl, s', t1, t2, t3⟩
    exact ⟨rfl, s', t1, t2, t3⟩
  · intro c w' hi
    refine ⟨x1 ++ y1, St.refl _, ?_, by simpa using hi⟩
    by_cases c1 : a < s
    · obtain rfl : y1 = [] := List.eq_nil_of_length_eq_zero (by omega)
      simpa using (sd_append.1 hx').1
    · obtain rfl : x1 = [] := List.eq_nil_of_length_eq_zero (by omega)
      simpa using (sd_append.1 hy').1
  · rintro c1 c2 w' ⟨s1, t1, d1, hi⟩
    have hl1 := t1.length
    rw [List.length_append] at hl1
    refine (HIH base g off cap mid E b N (p ++ s1) x2 y2 q w0 w' (by simpa using hi) ⟨by rw [List.length_append]; omega, by omega, by omega⟩ (fun z hz => hM' z (by simp at hz ⊢; rcases hz with h | h <;> simp [h])) (sd_append.1 hx').2.1 (sd_append.1 hy').2.1 (by omega) (by omega) (by omega) (by simp only [List.length_append]; omega) hsz).mono ?_
    rintro e w'' ⟨rfl, s2, t2, d2, hi2⟩
    exact ⟨rfl, fin s1 s2 w'' t1 d1 t2 d2 (by simpa using hi2)⟩
  · rintro c w' ⟨s1, t1, d1, hi⟩
    refine fin s1 (x2 ++ y2) w' t1 d1 (St.refl _) ?_ (by simpa using hi)
    by_cases c1 : s < m
    · obtain rfl : y2 = [] := List.eq_nil_of_length_eq_zero (by omega)
      simpa using (sd_append.1 hx').2.1
    · obtain rfl : x2 = [] := List.eq_nil_of_length_eq_zero (by omega)
      simpa using (sd_append.1 hy').2.1

set_option maxRecDepth 1000000 in
set_option maxHeartbeats 16000000 in
theorem sym3_is (fuel base g off cap a m b N : Nat) (p x y q : List Int) (w0 w : World) (HIH : SymIs fuel) (hI : In base w0 g off (p ++ (x ++ (y ++ q))) w) (hL : Lay p x y a m b) (hM : Mk (x ++ y)) (hx : Sd x) (hy : Sd y) (ham : a + 1 < m) (hmb : m + 1 < b) (hf : b - a ≤ fuel + 1)
    (hN : (p ++ (x ++ (y ++ q))).length = N) (hsz : N ≤ 1099511627776) :
    Calls Tryz.prog 149 #[.slice (some ⟨g, off, none⟩) N cap, .int .i64 a, .int .i64 m, .int .i64 b, .func (.func 104) #[] #[]] w (Sorted base w0 g off p (x ++ y) q) := by
  have eg := enters_18
  have hmix := mixed
  have hbN : b ≤ N := by
    have h1 := hL.1
    have h2 := hL.2.1
    have h3 := hL.2.2
    simp only [List.length_append] at hN
    omega
  obtain ⟨mid, hmid⟩ : ∃ mid, mid = (a + b) / 2 := ⟨_, rfl⟩
  obtain ⟨n, hn⟩ : ∃ n, n = mid + m := ⟨_, rfl⟩
  have HT : Hid (∀ lo hi s E, ((mid < m ∧ lo + b = n ∧ hi = mid) ∨ (m ≤ mid ∧ lo = a ∧ hi = m)) → lo ≤ s → s ≤ hi → Mid (kAt (p ++ (x ++ (y ++ q)))) n lo hi s s → E + s = n → ∃ R1 H, Tail base w0 g off cap N a m b mid E s p x y q (p ++ (x ++ (y ++ q))) R1 H) :=
    Lib.hid fun lo hi s E h1 h2 h3 h4 h5 => tail_of HIH hL hM hx hy ham hmb hf hmid hn h1 h2 h3 h4 h5 hN hsz
  have HAX : Hid (∀ i, a ≤ i → i < m → ∃ z, (p ++ (x ++ (y ++ q)))[i]? = some z) := Lib.hid fun i h0 h1 => by
    obtain ⟨z, _, hz⟩ := hL.atx (q := q) h0 h1
    exact ⟨z, hz⟩
  have HAY : Hid (∀ i, m ≤ i → i < b → ∃ z, (p ++ (x ++ (y ++ q)))[i]? = some z) := Lib.hid fun i h0 h1 => by
    obtain ⟨z, _, hz⟩ := hL.aty (q := q) h0 h1
    exact ⟨z, hz⟩
  have HKX : Hid (∀ i j, a ≤ i → i ≤ j → j < m → kAt (p ++ (x ++ (y ++ q))) i ≤ kAt (p ++ (x ++ (y ++ q))) j) := Lib.hid fun i j h0 h1 h2 => hL.kx hx h0 h1 h2
  have HKY : Hid (∀ i j, m ≤ i → i ≤ j → j < b → kAt (p ++ (x ++ (y ++ q))) i ≤ kAt (p ++ (x ++ (y ++ q))) j) := Lib.hid fun i j h0 h1 h2 => hL.ky hy h0 h1 h2
  have HI := Lib.hid hI
  clear hI hL hM hx hy hN HIH hf
  generalize p ++ (x ++ (y ++ q)) = D at HT HAX HAY HKX HKY HI
  have h0 : a < mid := by omega
  have h1 : mid < b := by omega
  have em : ((a : Int) + (b : Int)) / 2 = (mid : Int) := by omega
  have en : (mid : Int) + (m : Int) = (n : Int) := by omega
  have z0 : ((m : Int) - (a : Int) == 1) = false := by simp; omega
  have z1 : ((b : Int) - (m : Int) == 1) = false := by simp; omega
  obtain ⟨P, hP⟩ : ∃ P, P + 1 = n := ⟨n - 1, by omega⟩
  have eP : (n : Int) - 1 = (P : Int) := by omega
  have HN0 := Lib.hid hn
  by_cases hgt : mid < m
  · obtain ⟨lo, hlo⟩ : ∃ lo, lo + b = n := ⟨n - b, by omega⟩
    obtain ⟨hi, hhi⟩ : ∃ hi, hi = mid := ⟨_, rfl⟩
    have el : (n : Int) - (b : Int) = (lo : Int) := by omega
    have q1 : (mid : Int) < (m : Int) := by omega
    have HB : Hid ((mid < m ∧ lo + b = n ∧ hi = mid) ∨ (m ≤ mid ∧ lo = a ∧ hi = m)) := Lib.hid (.inl ⟨hgt, hlo, hhi⟩)
    have ehi : (hi : Int) = (mid : Int) := by omega
    have b0 : a ≤ lo := by omega
    have b1 : lo ≤ hi := by omega
    have b2 : hi ≤ m := by omega
    have b3 : hi ≤ mid := by omega
    have b4 : n ≤ lo + b := by omega
    have HMI := Lib.hid hmid
    clear hmid hlo hhi hgt hn
    go_enter Tryz.func149, Tryz.ntmps149
    go_wp2
    go_loopw [20, 21] (fun i j wr => S3Rel base w0 g off n lo hi D i j wr) (fun i j _ => (intOf j).toNat - (intOf i).toNat)
    case atStart => exact ⟨lo, hi, rfl, by rw [ehi], Nat.le_refl _, b1, Nat.le_refl _, Lib.hid ⟨fun c h1 h2 => by omega, fun c h1 h2 => by omega⟩, HI⟩
    case round =>
      clear HI
      obtain ⟨s, r, rfl, rfl, hs0, hsr, hr1, HK, HIN⟩ := hrel
      have hn := HN0.out
      by_cases hlt : s < r
      · obtain ⟨c, hc⟩ : ∃ c, c = (s + r) / 2 := ⟨_, rfl⟩
        have c1 : s ≤ c := by omega
        have c2 : c < r := by omega
        have ec : ((s : Int) + (r : Int)) / 2 = (c : Int) := by omega
        obtain ⟨d, hd⟩ : ∃ d, d + c = P := ⟨P - c, by omega⟩
        have ed : (P : Int) - (c : Int) = (d : Int) := by omega
        have rd : IntKind.i64.wrap ((P : Int) - (c : Int)) = (d : Int) := by rw [IntKind.wrap_i64]; omega
        have rd2 : IntKind.i64.wrap (d : Int) = (d : Int) := by rw [IntKind.wrap_i64]; omega
        obtain ⟨zc, hzc⟩ := HAX.out c (by omega) (by omega)
        obtain ⟨zd, hzd⟩ := HAY.out d (by omega) (by omega)
        have HZC := Lib.hid (kAt_is hzc)
        have HZD := Lib.hid (kAt_is hzd)
        have la := HIN.out.cells hzd
        have lb := HIN.out.cells hzc
        obtain ⟨v, hv⟩ : ∃ v, cmpI (cls zd) (cls zc) = v := ⟨_, rfl⟩
        have hcc := HIN.out.comp zd zc v hv
        have ba : (d : Int) < (N : Int) := by omega
        have bc : (c : Int) < (N : Int) := by omega
        have pa : (0 : Int) ≤ (d : Int) := by omega
        have pc : (0 : Int) ≤ (c : Int) := by omega
        have HC2 : Hid (n - 1 - c = d) := Lib.hid (by omega)
        clear hzc hzd hc
        by_cases hlt2 : cls zd < cls zc
        · have hdv : v < 0 := by rw [← hv]; exact cmpI_neg.2 hlt2
          have hdd : decide (v < 0) = true := decide_eq_true hdv
          have HN1 : Hid (Mid (kAt D) n lo hi s c) := Lib.hid ⟨HK.out.1, fun t t0 t1 => by
            have k1 := HKX.out c t (by omega) t0 (by omega)
            have k2 := HKY.out (n - 1 - t) d (by omega) (by have := HC2.out; omega) (by omega)
            have k3 := HZC.out
            have k4 := HZD.out
            omega⟩
          clear hlt2 hv HK hd hn
          go_wp2_with fail
          go_quiet_grown (first | (go_at_fn 104; refine Calls.grown_of (hcc _ _)))
          have S2 : Hid (In base w0 g off D (Sort.grow (wr.drewN nq) osq)) := Lib.hid (HIN.out.gr ⟨nq, osq, rfl⟩)
          clear la lb hcc HIN
          generalize Sort.grow (wr.drewN nq) osq = w2 at S2 ⊢
          go_wp2
          go_roundw
          case rel => exact ⟨s, c, rfl, by go_num, hs0, by omega, by omega, HN1, S2⟩
          case measure => simp [intOf]; omega
        · have hdv : ¬ v < 0 := by rw [← hv]; exact fun h => hlt2 (cmpI_neg.1 h)
          have hdd : decide (v < 0) = false := decide_eq_false hdv
          have HN1 : Hid (Mid (kAt D) n lo hi (c + 1) r) := Lib.hid ⟨fun t t0 t1 => by
            have k1 := HKX.out t c (by omega) (by omega) (by omega)
            have k2 := HKY.out d (n - 1 - t) (by omega) (by have := HC2.out; omega) (by omega)
            have k3 := HZC.out
            have k4 := HZD.out
            omega, HK.out.2⟩
          clear hlt2 hv HK hd hn
          go_wp2_with fail
          go_quiet_grown (first | (go_at_fn 104; refine Calls.grown_of (hcc _ _)))
          have S2 : Hid (In base w0 g off D (Sort.grow (wr.drewN nq) osq)) := Lib.hid (HIN.out.gr ⟨nq, osq, rfl⟩)
          clear la lb hcc HIN
          generalize Sort.grow (wr.drewN nq) osq = w2 at S2 ⊢
          go_wp2
          go_roundw
          case rel => exact ⟨c + 1, r, by go_num, rfl, by omega, by omega, hr1, HN1, S2⟩
          case measure => simp [intOf]; omega
      · obtain rfl : s = r := by omega
        obtain ⟨E, hE⟩ : ∃ E, E + s = n := ⟨n - s, by omega⟩
        have eE : (n : Int) - (s : Int) = (E : Int) := by omega
        obtain ⟨R1, H, hTl⟩ := HT.out lo hi s E HB.out hs0 hr1 HK.out hE
        have TL := Lib.hid hTl
        have e1 : s ≤ m := by omega
        have e2 : s ≤ mid := by omega
        have e3 : a ≤ s := by omega
        have e4 : E ≤ b := by omega
        have e5 : (m : Int) < (E : Int) ↔ s < mid := by omega
        have e6 : (mid : Int) < (E : Int) ↔ s < m := by omega
        clear hTl HT HK HAX HAY HKX HKY HB el ehi hn
        generalize wr = wo at HIN ⊢
        clear wr
        have hnlt : ¬ (s : Int) < (s : Int) := by omega
        by_cases cA : s < m
        · by_cases cB : s < mid
          · by_cases cC : a < s
            · by_cases cD : E < b
              · have k1 : (s : Int) < (m : Int) := by omega
                have k2 : (m : Int) < (E : Int) := by rw [e5]; omega
                have k3 : (a : Int) < (s : Int) := by omega
                have k4 : (s : Int) < (mid : Int) := by omega
                have k5 : (mid : Int) < (E : Int) := by rw [e6]; omega
                have k6 : (E : Int) < (b : Int) := by omega
                clear e5 e6
                have HQ := Lib.hid (TL.out.rot cA cB wo HIN.out)
                go_wp2_with fail
                with_reducible refine HQ.out.mono ?_
                rintro e' w1 ⟨rfl, hr⟩
                have HR := Lib.hid hr
                clear hr HQ
                have HQ2 := Lib.hid (TL.out.one cC cB w1 HR.out)
                go_wp2_with fail
                with_reducible refine HQ2.out.mono ?_
                rintro e' w2 ⟨rfl, hr⟩
                have HH := Lib.hid hr
                clear hr HQ2
                have HQ3 := Lib.hid (TL.out.two cA cD w2 HH.out)
                go_wp2_with fail
                with_reducible refine HQ3.out.mono ?_
                rintro e' w3 ⟨rfl, hr⟩
                have HF := Lib.hid hr
                clear hr HQ3
                go_wp2
                all_goals go_end0
                all_goals exact ⟨rfl, HF.out⟩
              · have k1 : (s : Int) < (m : Int) := by omega
                have k2 : (m : Int) < (E : Int) := by rw [e5]; omega
                have k3 : (a : Int) < (s : Int) := by omega
                have k4 : (s : Int) < (mid : Int) := by omega
                have k5 : (mid : Int) < (E : Int) := by rw [e6]; omega
                have k6 : ¬ (E : Int) < (b : Int) := by omega
                clear e5 e6
                have HQ := Lib.hid (TL.out.rot cA cB wo HIN.out)
                go_wp2_with fail
                with_reducible refine HQ.out.mono ?_
                rintro e' w1 ⟨rfl, hr⟩
                have HR := Lib.hid hr
                clear hr HQ
                have HQ2 := Lib.hid (TL.out.one cC cB w1 HR.out)
                go_wp2_with fail
                with_reducible refine HQ2.out.mono ?_
                rintro e' w2 ⟨rfl, hr⟩
                have HH := Lib.hid hr
                clear hr HQ2
                have HF := Lib.hid (TL.out.ntwo (fun h => by omega) w2 HH.out)
                go_wp2
                all_goals go_end0
                all_goals exact ⟨rfl, HF.out⟩
            · by_cases cD : E < b
              · have k1 : (s : Int) < (m : Int) := by omega
                have k2 : (m : Int) < (E : Int) := by rw [e5]; omega
                have k3 : ¬ (a : Int) < (s : Int) := by omega
                have k4 : (s : Int) < (mid : Int) := by omega
                have k5 : (mid : Int) < (E : Int) := by rw [e6]; omega
                have k6 : (E : Int) < (b : Int) := by omega
                clear e5 e6
                have HQ := Lib.hid (TL.out.rot cA cB wo HIN.out)
                go_wp2_with fail
                with_reducible refine HQ.out.mono ?_
                rintro e' w1 ⟨rfl, hr⟩
                have HR := Lib.hid hr
                clear hr HQ
                have HH := Lib.hid (TL.out.skip1 (fun h => by omega) w1 HR.out)
                have HQ3 := Lib.hid (TL.out.two cA cD w1 HH.out)
                go_wp2_with fail
                with_reducible refine HQ3.out.mono ?_
                rintro e' w3 ⟨rfl, hr⟩
                have HF := Lib.hid hr
                clear hr HQ3
                go_wp2
                all_goals go_end0
                all_goals exact ⟨rfl, HF.out⟩
              · have k1 : (s : Int) < (m : Int) := by omega
                have k2 : (m : Int) < (E : Int) := by rw [e5]; omega
                have k3 : ¬ (a : Int) < (s : Int) := by omega
                have k4 : (s : Int) < (mid : Int) := by omega
                have k5 : (mid : Int) < (E : Int) := by rw [e6]; omega
                have k6 : ¬ (E : Int) < (b : Int) := by omega
                clear e5 e6
                have HQ := Lib.hid (TL.out.rot cA cB wo HIN.out)
                go_wp2_with fail
                with_reducible refine HQ.out.mono ?_
                rintro e' w1 ⟨rfl, hr⟩
                have HR := Lib.hid hr
                clear hr HQ
                have HH := Lib.hid (TL.out.skip1 (fun h => by omega) w1 HR.out)
                have HF := Lib.hid (TL.out.ntwo (fun h => by omega) w1 HH.out)
                go_wp2
                all_goals go_end0
                all_goals exact ⟨rfl, HF.out⟩
          · by_cases cC : a < s
            · by_cases cD : E < b
              · have k1 : (s : Int) < (m : Int) := by omega
                have k2 : ¬ (m : Int) < (E : Int) := by rw [e5]; omega
                have k3 : (a : Int) < (s : Int) := by omega
                have k4 : ¬ (s : Int) < (mid : Int) := by omega
                have k5 : (mid : Int) < (E : Int) := by rw [e6]; omega
                have k6 : (E : Int) < (b : Int) := by omega
                clear e5 e6
                have HR := Lib.hid (TL.out.nrot (fun h => by omega) wo HIN.out)
                have HH := Lib.hid (TL.out.skip1 (fun h => by omega) wo HR.out)
                have HQ3 := Lib.hid (TL.out.two cA cD wo HH.out)
                go_wp2_with fail
                with_reducible refine HQ3.out.mono ?_
                rintro e' w3 ⟨rfl, hr⟩
                have HF := Lib.hid hr
                clear hr HQ3
                go_wp2
                all_goals go_end0
                all_goals exact ⟨rfl, HF.out⟩
              · exfalso; omega
            · by_cases cD : E < b
              · exfalso; omega
              · exfalso; omega
        · by_cases cB : s < mid
          · by_cases cC : a < s
            · by_cases cD : E < b
              · have k1 : ¬ (s : Int) < (m : Int) := by omega
                have k2 : (m : Int) < (E : Int) := by rw [e5]; omega
                have k3 : (a : Int) < (s : Int) := by omega
                have k4 : (s : Int) < (mid : Int) := by omega
                have k5 : ¬ (mid : Int) < (E : Int) := by rw [e6]; omega
                have k6 : (E : Int) < (b : Int) := by omega
                clear e5 e6
                have HR := Lib.hid (TL.out.nrot (fun h => by omega) wo HIN.out)
                have HQ2 := Lib.hid (TL.out.one cC cB wo HR.out)
                go_wp2_with fail
                with_reducible refine HQ2.out.mono ?_
                rintro e' w2 ⟨rfl, hr⟩
                have HH := Lib.hid hr
                clear hr HQ2
                have HF := Lib.hid (TL.out.ntwo (fun h => by omega) w2 HH.out)
                go_wp2
                all_goals go_end0
                all_goals exact ⟨rfl, HF.out⟩
              · exfalso; omega
            · by_cases cD : E < b
              · exfalso; omega
              · exfalso; omega
          · by_cases cC : a < s
            · by_cases cD : E < b
              · have k1 : ¬ (s : Int) < (m : Int) := by omega
                have k2 : ¬ (m : Int) < (E : Int) := by rw [e5]; omega
                have k3 : (a : Int) < (s : Int) := by omega
                have k4 : ¬ (s : Int) < (mid : Int) := by omega
                have k5 : ¬ (mid : Int) < (E : Int) := by rw [e6]; omega
                have k6 : (E : Int) < (b : Int) := by omega
                clear e5 e6
                have HR := Lib.hid (TL.out.nrot (fun h => by omega) wo HIN.out)
                have HH := Lib.hid (TL.out.skip1 (fun h => by omega) wo HR.out)
                have HF := Lib.hid (TL.out.ntwo (fun h => by omega) wo HH.out)
                go_wp2
                all_goals go_end0
                all_goals exact ⟨rfl, HF.out⟩
              · exfalso; omega
            · by_cases cD : E < b
              · exfalso; omega
              · exfalso; omega
  · obtain ⟨lo, hlo⟩ : ∃ lo, lo = a := ⟨_, rfl⟩
    obtain ⟨hi, hhi⟩ : ∃ hi, hi = m := ⟨_, rfl⟩
    have el : (lo : Int) = (a : Int) := by omega
    have q1 : ¬ (mid : Int) < (m : Int) := by omega
    have HB : Hid ((mid < m ∧ lo + b = n ∧ hi = mid) ∨ (m ≤ mid ∧ lo = a ∧ hi = m)) := Lib.hid (.inr ⟨by omega, hlo, hhi⟩)
    have ehi : (hi : Int) = (m : Int) := by omega
    have b0 : a ≤ lo := by omega
    have b1 : lo ≤ hi := by omega
    have b2 : hi ≤ m := by omega
    have b3 : hi ≤ mid := by omega
    have b4 : n ≤ lo + b := by omega
    have HMI := Lib.hid hmid
    clear hmid hlo hhi hgt hn
    go_enter Tryz.func149, Tryz.ntmps149
    go_wp2
    go_loopw [20, 21] (fun i j wr => S3Rel base w0 g off n lo hi D i j wr) (fun i j _ => (intOf j).toNat - (intOf i).toNat)
    case atStart => exact ⟨lo, hi, by rw [el], by rw [ehi], Nat.le_refl _, b1, Nat.le_refl _, Lib.hid ⟨fun c h1 h2 => by omega, fun c h1 h2 => by omega⟩, HI⟩
    case round =>
      clear HI
      obtain ⟨s, r, rfl, rfl, hs0, hsr, hr1, HK, HIN⟩ := hrel
      have hn := HN0.out
      by_cases hlt : s < r
      · obtain ⟨c, hc⟩ : ∃ c, c = (s + r) / 2 := ⟨_, rfl⟩
        have c1 : s ≤ c := by omega
        have c2 : c < r := by omega
        have ec : ((s : Int) + (r : Int)) / 2 = (c : Int) := by omega
        obtain ⟨d, hd⟩ : ∃ d, d + c = P := ⟨P - c, by omega⟩
        have ed : (P : Int) - (c : Int) = (d : Int) := by omega
        have rd : IntKind.i64.wrap ((P : Int) - (c : Int)) = (d : Int) := by rw [IntKind.wrap_i64]; omega
        have rd2 : IntKind.i64.wrap (d : Int) = (d : Int) := by rw [IntKind.wrap_i64]; omega
        obtain ⟨zc, hzc⟩ := HAX.out c (by omega) (by omega)
        obtain ⟨zd, hzd⟩ := HAY.out d (by omega) (by omega)
        have HZC := Lib.hid (kAt_is hzc)
        have HZD := Lib.hid (kAt_is hzd)
        have la := HIN.out.cells hzd
        have lb := HIN.out.cells hzc
        obtain ⟨v, hv⟩ : ∃ v, cmpI (cls zd) (cls zc) = v := ⟨_, rfl⟩
        have hcc := HIN.out.comp zd zc v hv
        have ba : (d : Int) < (N : Int) := by omega
        have bc : (c : Int) < (N : Int) := by omega
        have pa : (0 : Int) ≤ (d : Int) := by omega
        have pc : (0 : Int) ≤ (c : Int) := by omega
        have HC2 : Hid (n - 1 - c = d) := Lib.hid (by omega)
        clear hzc hzd hc
        by_cases hlt2 : cls zd < cls zc
        · have hdv : v < 0 := by rw [← hv]; exact cmpI_neg.2 hlt2
          have hdd : decide (v < 0) = true := decide_eq_true hdv
          have HN1 : Hid (Mid (kAt D) n lo hi s c) := Lib.hid ⟨HK.out.1, fun t t0 t1 => by
            have k1 := HKX.out c t (by omega) t0 (by omega)
            have k2 := HKY.out (n - 1 - t) d (by omega) (by have := HC2.out; omega) (by omega)
            have k3 := HZC.out
            have k4 := HZD.out
            omega⟩
          clear hlt2 hv HK hd hn
          go_wp2_with fail
          go_quiet_grown (first | (go_at_fn 104; refine Calls.grown_of (hcc _ _)))
          have S2 : Hid (In base w0 g off D (Sort.grow (wr.drewN nq) osq)) := Lib.hid (HIN.out.gr ⟨nq, osq, rfl⟩)
          clear la lb hcc HIN
          generalize Sort.grow (wr.drewN nq) osq = w2 at S2 ⊢
          go_wp2
          go_roundw
          case rel => exact ⟨s, c, rfl, by go_num, hs0, by omega, by omega, HN1, S2⟩
          case measure => simp [intOf]; omega
        · have hdv : ¬ v < 0 := by rw [← hv]; exact fun h => hlt2 (cmpI_neg.1 h)
          have hdd : decide (v < 0) = false := decide_eq_false hdv
          have HN1 : Hid (Mid (kAt D) n lo hi (c + 1) r) := Lib.hid ⟨fun t t0 t1 => by
            have k1 := HKX.out t c (by omega) (by omega) (by omega)
            have k2 := HKY.out d (n - 1 - t) (by omega) (by have := HC2.out; omega) (by omega)
            have k3 := HZC.out
            have k4 := HZD.out
            omega, HK.out.2⟩
          clear hlt2 hv HK hd hn
          go_wp2_with fail
          go_quiet_grown (first | (go_at_fn 104; refine Calls.grown_of (hcc _ _)))
          have S2 : Hid (In base w0 g off D (Sort.grow (wr.drewN nq) osq)) := Lib.hid (HIN.out.gr ⟨nq, osq, rfl⟩)
          clear la lb hcc HIN
          generalize Sort.grow (wr.drewN nq) osq = w2 at S2 ⊢
          go_wp2
          go_roundw
          case rel => exact ⟨c + 1, r, by go_num, rfl, by omega, by omega, hr1, HN1, S2⟩
          case measure => simp [intOf]; omega
      · obtain rfl : s = r := by omega
        obtain ⟨E, hE⟩ : ∃ E, E + s = n := ⟨n - s, by omega⟩
        have eE : (n : Int) - (s : Int) = (E : Int) := by omega
        obtain ⟨R1, H, hTl⟩ := HT.out lo hi s E HB.out hs0 hr1 HK.out hE
        have TL := Lib.hid hTl
        have e1 : s ≤ m := by omega
        have e2 : s ≤ mid := by omega
        have e3 : a ≤ s := by omega
        have e4 : E ≤ b := by omega
        have e5 : (m : Int) < (E : Int) ↔ s < mid := by omega
        have e6 : (mid : Int) < (E : Int) ↔ s < m := by omega
        clear hTl HT HK HAX HAY HKX HKY HB el ehi hn
        generalize wr = wo at HIN ⊢
        clear wr
        have hnlt : ¬ (s : Int) < (s : Int) := by omega
        by_cases cA : s < m
        · by_cases cB : s < mid
          · by_cases cC : a < s
            · by_cases cD : E < b
              · have k1 : (s : Int) < (m : Int) := by omega
                have k2 : (m : Int) < (E : Int) := by rw [e5]; omega
                have k3 : (a : Int) < (s : Int) := by omega
                have k4 : (s : Int) < (mid : Int) := by omega
                have k5 : (mid : Int) < (E : Int) := by rw [e6]; omega
                have k6 : (E : Int) < (b : Int) := by omega
                clear e5 e6
                have HQ := Lib.hid (TL.out.rot cA cB wo HIN.out)
                go_wp2_with fail
                with_reducible refine HQ.out.mono ?_
                rintro e' w1 ⟨rfl, hr⟩
                have HR := Lib.hid hr
                clear hr HQ
                have HQ2 := Lib.hid (TL.out.one cC cB w1 HR.out)
                go_wp2_with fail
                with_reducible refine HQ2.out.mono ?_
                rintro e' w2 ⟨rfl, hr⟩
                have HH := Lib.hid hr
                clear hr HQ2
                have HQ3 := Lib.hid (TL.out.two cA cD w2 HH.out)
                go_wp2_with fail
                with_reducible refine HQ3.out.mono ?_
                rintro e' w3 ⟨rfl, hr⟩
                have HF := Lib.hid hr
                clear hr HQ3
                go_wp2
                all_goals go_end0
                all_goals exact ⟨rfl, HF.out⟩
              · have k1 : (s : Int) < (m : Int) := by omega
                have k2 : (m : Int) < (E : Int) := by rw [e5]; omega
                have k3 : (a : Int) < (s : Int) := by omega
                have k4 : (s : Int) < (mid : Int) := by omega
                have k5 : (mid : Int) < (E : Int) := by rw [e6]; omega
                have k6 : ¬ (E : Int) < (b : Int) := by omega
                clear e5 e6
                have HQ := Lib.hid (TL.out.rot cA cB wo HIN.out)
                go_wp2_with fail
                with_reducible refine HQ.out.mono ?_
                rintro e' w1 ⟨rfl, hr⟩
                have HR := Lib.hid hr
                clear hr HQ
                have HQ2 := Lib.hid (TL.out.one cC cB w1 HR.out)
                go_wp2_with fail
                with_reducible refine HQ2.out.mono ?_
                rintro e' w2 ⟨rfl, hr⟩
                have HH := Lib.hid hr
                clear hr HQ2
                have HF := Lib.hid (TL.out.ntwo (fun h => by omega) w2 HH.out)
                go_wp2
                all_goals go_end0
                all_goals exact ⟨rfl, HF.out⟩
            · by_cases cD : E < b
              · have k1 : (s : Int) < (m : Int) := by omega
                have k2 : (m : Int) < (E : Int) := by rw [e5]; omega
                have k3 : ¬ (a : Int) < (s : Int) := by omega
                have k4 : (s : Int) < (mid : Int) := by omega
                have k5 : (mid : Int) < (E : Int) := by rw [e6]; omega
                have k6 : (E : Int) < (b : Int) := by omega
                clear e5 e6
                have HQ := Lib.hid (TL.out.rot cA cB wo HIN.out)
                go_wp2_with fail
                with_reducible refine HQ.out.mono ?_
                rintro e' w1 ⟨rfl, hr⟩
                have HR := Lib.hid hr
                clear hr HQ
                have HH := Lib.hid (TL.out.skip1 (fun h => by omega) w1 HR.out)
                have HQ3 := Lib.hid (TL.out.two cA cD w1 HH.out)
                go_wp2_with fail
                with_reducible refine HQ3.out.mono ?_
                rintro e' w3 ⟨rfl, hr⟩
                have HF := Lib.hid hr
                clear hr HQ3
                go_wp2
                all_goals go_end0
                all_goals exact ⟨rfl, HF.out⟩
              · have k1 : (s : Int) < (m : Int) := by omega
                have k2 : (m : Int) < (E : Int) := by rw [e5]; omega
                have k3 : ¬ (a : Int) < (s : Int) := by omega
                have k4 : (s : Int) < (mid : Int) := by omega
                have k5 : (mid : Int) < (E : Int) := by rw [e6]; omega
                have k6 : ¬ (E : Int) < (b : Int) := by omega
                clear e5 e6
                have HQ := Lib.hid (TL.out.rot cA cB wo HIN.out)
                go_wp2_with fail
                with_reducible refine HQ.out.mono ?_
                rintro e' w1 ⟨rfl, hr⟩
                have HR := Lib.hid hr
                clear hr HQ
                have HH := Lib.hid (TL.out.skip1 (fun h => by omega) w1 HR.out)
                have HF := Lib.hid (TL.out.ntwo (fun h => by omega) w1 HH.out)
                go_wp2
                all_goals go_end0
                all_goals exact ⟨rfl, HF.out⟩
          · by_cases cC : a < s
            · by_cases cD : E < b
              · have k1 : (s : Int) < (m : Int) := by omega
                have k2 : ¬ (m : Int) < (E : Int) := by rw [e5]; omega
                have k3 : (a : Int) < (s : Int) := by omega
                have k4 : ¬ (s : Int) < (mid : Int) := by omega
                have k5 : (mid : Int) < (E : Int) := by rw [e6]; omega
                have k6 : (E : Int) < (b : Int) := by omega
                clear e5 e6
                have HR := Lib.hid (TL.out.nrot (fun h => by omega) wo HIN.out)
                have HH := Lib.hid (TL.out.skip1 (fun h => by omega) wo HR.out)
                have HQ3 := Lib.hid (TL.out.two cA cD wo HH.out)
                go_wp2_with fail
                with_reducible refine HQ3.out.mono ?_
                rintro e' w3 ⟨rfl, hr⟩
                have HF := Lib.hid hr
                clear hr HQ3
                go_wp2
                all_goals go_end0
                all_goals exact ⟨rfl, HF.out⟩
              · exfalso; omega
            · by_cases cD : E < b
              · exfalso; omega
              · exfalso; omega
        · by_cases cB : s < mid
          · by_cases cC : a < s
            · by_cases cD : E < b
              · have k1 : ¬ (s : Int) < (m : Int) := by omega
                have k2 : (m : Int) < (E : Int) := by rw [e5]; omega
                have k3 : (a : Int) < (s : Int) := by omega
                have k4 : (s : Int) < (mid : Int) := by omega
                have k5 : ¬ (mid : Int) < (E : Int) := by rw [e6]; omega
                have k6 : (E : Int) < (b : Int) := by omega
                clear e5 e6
                have HR := Lib.hid (TL.out.nrot (fun h => by omega) wo HIN.out)
                have HQ2 := Lib.hid (TL.out.one cC cB wo HR.out)
                go_wp2_with fail
                with_reducible refine HQ2.out.mono ?_
                rintro e' w2 ⟨rfl, hr⟩
                have HH := Lib.hid hr
                clear hr HQ2
                have HF := Lib.hid (TL.out.ntwo (fun h => by omega) w2 HH.out)
                go_wp2
                all_goals go_end0
                all_goals exact ⟨rfl, HF.out⟩
              · exfalso; omega
            · by_cases cD : E < b
              · exfalso; omega
              · exfalso; omega
          · by_cases cC : a < s
            · by_cases cD : E < b
              · have k1 : ¬ (s : Int) < (m : Int) := by omega
                have k2 : ¬ (m : Int) < (E : Int) := by rw [e5]; omega
                have k3 : (a : Int) < (s : Int) := by omega
                have k4 : ¬ (s : Int) < (mid : Int) := by omega
                have k5 : ¬ (mid : Int) < (E : Int) := by rw [e6]; omega
                have k6 : (E : Int) < (b : Int) := by omega
                clear e5 e6
                have HR := Lib.hid (TL.out.nrot (fun h => by omega) wo HIN.out)
                have HH := Lib.hid (TL.out.skip1 (fun h => by omega) wo HR.out)
                have HF := Lib.hid (TL.out.ntwo (fun h => by omega) wo HH.out)
                go_wp2
                all_goals go_end0
                all_goals exact ⟨rfl, HF.out⟩
              · exfalso; omega
            · by_cases cD : E < b
              · exfalso; omega
              · exfalso; omega

/-- Two sorted runs of marks side by side, at whatever lengths. -/
theorem sym_all : ∀ n, SymIs n := by
  intro n
  induction n with
  | zero => intro base g off cap a m b N p x y q w0 w hI hL hM hx hy ham hmb hf hN hs; omega
  | succ n ih =>
    intro base g off cap a m b N p x y q w0 w hI hL hM hx hy ham hmb hf hN hs
    have h1 := hL.2.1
    have h2 := hL.2.2
    by_cases c1 : m = a + 1
    · obtain ⟨u, rfl⟩ : ∃ u, x = [u] := List.length_eq_one_iff.1 (by omega)
      exact sym1_is base g off cap a m b N p y q u w0 w hI hL hM hy hmb hN hs
    · by_cases c2 : b = m + 1
      · obtain ⟨v, rfl⟩ : ∃ u, y = [u] := List.length_eq_one_iff.1 (by omega)
        exact sym2_is base g off cap a m b N p x q v w0 w hI hL hM hx (by omega) hN hs
      · exact sym3_is n base g off cap a m b N p x y q w0 w ih hI hL hM hx hy (by omega) (by omega) hf hN hs
end Go.Proofs.YtipigfgnpfhdbaaGreatDoor.F
namespace Go.Proofs.YtipigfgnpfhdbaaGreatDoor.F
open Go.RowKit U
set_option linter.unusedVariables false

def B1Rel (base : Nat) (w0 : World) (g off N : Nat) (l : List Int) (a b : Value) (w : World) : Prop :=
  ∃ A : Nat, a = .int .i64 A ∧ b = .int .i64 ((A : Int) + 20) ∧ A ≤ N ∧ Hid (∃ d r, d.length = A ∧ A % 20 = 0 ∧ Blk 20 d ∧ St l (d ++ r) ∧ In base w0 g off (d ++ r) w)
def B2Rel (base : Nat) (w0 : World) (g off N : Nat) (l : List Int) (c : Value) (w : World) : Prop :=
  ∃ bs : Nat, c = .int .i64 bs ∧ 20 ≤ bs ∧ bs ≤ 2 * N + 20 ∧ Hid (∃ t, Blk bs t ∧ St l t ∧ In base w0 g off t w)
def B3Rel (base : Nat) (w0 : World) (g off N bs : Nat) (l : List Int) (a b : Value) (w : World) : Prop :=
  ∃ A : Nat, a = .int .i64 A ∧ b = .int .i64 ((A : Int) + 2 * (bs : Int)) ∧ A ≤ N ∧ Hid (∃ d r, d.length = A ∧ A % (2 * bs) = 0 ∧ Blk (2 * bs) d ∧ Blk bs r ∧ St l (d ++ r) ∧ In base w0 g off (d ++ r) w)
theorem mod_half {A bs : Nat} (h : A % (2 * bs) = 0) : A % bs = 0 := by
  obtain ⟨k, hk⟩ : ∃ k, A = (2 * bs) * k := ⟨A / (2 * bs), by have := Nat.div_add_mod A (2 * bs); omega⟩
  rw [hk, show 2 * bs * k = bs * (2 * k) by rw [Nat.mul_comm 2 bs, Nat.mul_assoc]]
  exact Nat.mul_mod_right _ _
def Stable (base : Nat) (w0 : World) (g off : Nat) (l : List Int) (e : Ending) (w' : World) : Prop := e = .returned (.tuple #[]) ∧ ∃ s', St l s' ∧ Sd s' ∧ In base w0 g off s' w'

set_option maxRecDepth 1000000 in
set_option maxHeartbeats 8000000 in
theorem stable_is (base g off cap N : Nat) (l : List Int) (w0 w : World) (hI : In base w0 g off l w) (hM : Mk l) (hN : l.length = N) (hsz : N ≤ 1099511627776) :
    Calls Tryz.prog 127 #[.slice (some ⟨g, off, none⟩) N cap, .int .i64 N, .func (.func 104) #[] #[]] w (Stable base w0 g off l) := by
  have HI := Lib.hid hI
  have HM := Lib.hid hM
  have HN := Lib.hid hN
  clear hI hM hN
  go_enter Tryz.func127, Tryz.ntmps127
  go_wp2
  go_loopw [7, 8] (fun a b wr => B1Rel base w0 g off N l a b wr) (fun a _ _ => N - (intOf a).toNat)
  case atStart => exact ⟨0, rfl, rfl, Nat.zero_le _, Lib.hid ⟨[], l, rfl, rfl, blk_nil _, St.refl _, HI.out⟩⟩
  case round =>
    clear HI
    obtain ⟨A, rfl, rfl, hAN, HR⟩ := hrel
    by_cases hlt : A + 20 ≤ N
    · obtain ⟨B, hB⟩ : ∃ B, B = A + 20 := ⟨_, rfl⟩
      have zB : (A : Int) + 20 = (B : Int) := by omega
      have HC : Hid (Calls Tryz.prog 148 #[.slice (some ⟨g, off, none⟩) N cap, .int .i64 A, .int .i64 B, .func (.func 104) #[] #[]] wr fun e w' => e = .returned (.tuple #[]) ∧ Hid (∃ d r, d.length = B ∧ B % 20 = 0 ∧ Blk 20 d ∧ St l (d ++ r) ∧ In base w0 g off (d ++ r) w')) := Lib.hid (by
        obtain ⟨d, r, l1, l2, hb, hst, hin⟩ := HR.out
        have hlen := hst.length
        rw [HN.out, List.length_append] at hlen
        obtain ⟨s, q, rfl, l3⟩ := cut_two (X := r) (j := 20) (by omega)
        rw [List.length_append] at hlen
        refine (ins_is base g off cap A B N d s q w0 wr hin l1 (by omega) (fun z hz => HM.out z (hst.mem.1 (by simp [hz]))) (by simp only [List.length_append]; omega) hsz).mono ?_
        rintro e w' ⟨rfl, s', t1, t2, t3⟩
        have l4 := t1.length
        refine ⟨rfl, Lib.hid ⟨d ++ s', q, by rw [List.length_append]; omega, by omega, blk_snoc (by omega) hb (by rw [l1]; exact l2) t2 (by omega), ?_, by simpa using t3⟩⟩
        refine hst.trans ?_
        have := (St.refl d).append (t1.append (St.refl q))
        simpa using this)
      have q1 : (B : Int) ≤ (N : Int) := by omega
      have HB := Lib.hid hB
      clear HR hlt hB
      rw [zB]
      clear zB
      go_wp2_with fail
      with_reducible refine HC.out.mono ?_
      rintro e w1 ⟨rfl, HR⟩
      clear HC
      go_wp2
      go_roundw
      case rel => exact ⟨B, rfl, by go_num, by omega, HR⟩
      case measure => have := HB.out; simp [intOf]; omega
    · have HC : Hid (Calls Tryz.prog 148 #[.slice (some ⟨g, off, none⟩) N cap, .int .i64 A, .int .i64 N, .func (.func 104) #[] #[]] wr fun e w' => e = .returned (.tuple #[]) ∧ Hid (∃ t, Blk 20 t ∧ St l t ∧ In base w0 g off t w')) := Lib.hid (by
        obtain ⟨d, r, l1, l2, hb, hst, hin⟩ := HR.out
        have hlen := hst.length
        rw [HN.out, List.length_append] at hlen
        refine (ins_is base g off cap A N N d r [] w0 wr (by simpa using hin) l1 (by omega) (fun z hz => HM.out z (hst.mem.1 (by simp [hz]))) (by simp only [List.length_append, List.length_nil]; omega) hsz).mono ?_
        rintro e w' ⟨rfl, s', t1, t2, t3⟩
        have l4 := t1.length
        refine ⟨rfl, Lib.hid ⟨d ++ s', blk_snoc (by omega) hb (by rw [l1]; exact l2) t2 (by omega), ?_, by simpa using t3⟩⟩
        exact hst.trans ((St.refl d).append t1))
      have q1 : ¬ (A : Int) + 20 ≤ (N : Int) := by omega
      clear HR hlt
      generalize wr = wo at HC ⊢
      clear wr
      go_wp2_with fail
      with_reducible refine HC.out.mono ?_
      rintro e w1 ⟨rfl, HR⟩
      clear HC
      go_wp2
      go_loopw [6] (fun c wr => B2Rel base w0 g off N l c wr) (fun c _ => 2 * N + 21 - (intOf c).toNat)
      case atStart => exact ⟨20, rfl, Nat.le_refl _, by omega, HR⟩
      case round =>
        clear HR q1
        obtain ⟨bs, rfl, hb0, hb1, HR⟩ := hrel
        by_cases hlt : bs < N
        · have q1 : (bs : Int) < (N : Int) := by omega
          have HR0 : Hid (∃ d r, d.length = 0 ∧ 0 % (2 * bs) = 0 ∧ Blk (2 * bs) d ∧ Blk bs r ∧ St l (d ++ r) ∧ In base w0 g off (d ++ r) wr) := Lib.hid (by
            obtain ⟨t, h1, h2, h3⟩ := HR.out
            exact ⟨[], t, rfl, by simp, blk_nil _, h1, h2, h3⟩)
          clear HR
          generalize wr = wo at HR0 ⊢
          clear wr
          go_wp2
          go_loopw [7, 8] (fun a b wr => B3Rel base w0 g off N bs l a b wr) (fun a _ _ => N - (intOf a).toNat)
          case atStart => exact ⟨0, rfl, by first | rfl | (congr 1; omega), Nat.zero_le _, HR0⟩
          case round =>
            clear HR0
            obtain ⟨A', rfl, rfl, hAN', HR⟩ := hrel
            by_cases hlt2 : A' + 2 * bs ≤ N
            · obtain ⟨B, hB⟩ : ∃ B, B = A' + 2 * bs := ⟨_, rfl⟩
              obtain ⟨M, hM⟩ : ∃ M, M = A' + bs := ⟨_, rfl⟩
              have zB : (A' : Int) + 2 * (bs : Int) = (B : Int) := by omega
              have zM : (A' : Int) + (bs : Int) = (M : Int) := by omega
              have HC : Hid (Calls Tryz.prog 149 #[.slice (some ⟨g, off, none⟩) N cap, .int .i64 A', .int .i64 M, .int .i64 B, .func (.func 104) #[] #[]] wr fun e w' => e = .returned (.tuple #[]) ∧ Hid (∃ d r, d.length = B ∧ B % (2 * bs) = 0 ∧ Blk (2 * bs) d ∧ Blk bs r ∧ St l (d ++ r) ∧ In base w0 g off (d ++ r) w')) := Lib.hid (by
                obtain ⟨d, r, l1, l2, hb, hbr, hst, hin⟩ := HR.out
                have hlen := hst.length
                rw [HN.out, List.length_append] at hlen
                obtain ⟨x, r1, rfl, l3⟩ := cut_two (X := r) (j := bs) (by omega)
                rw [List.length_append] at hlen
                obtain ⟨y, q, rfl, l4⟩ := cut_two (X := r1) (j := bs) (by omega)
                rw [List.length_append] at hlen
                have hbr2 := blk_cut (by omega) hbr (by rw [l3]; exact Nat.mod_self _)
                have hbr3 := blk_cut (by omega) hbr2 (by rw [l4]; exact Nat.mod_self _)
                refine (sym_all (B - A') base g off cap A' M B N d x y q w0 wr hin ⟨l1, by omega, by omega⟩ (fun z hz => HM.out z (hst.mem.1 (by simp at hz ⊢; rcases hz with h | h <;> simp [h]))) (blk_sd hbr (by omega)) (blk_sd hbr2 (by omega)) (by omega) (by omega) (Nat.le_refl _) (by simp only [List.length_append]; omega) hsz).mono ?_
                rintro e w' ⟨rfl, s', t1, t2, t3⟩
                have l5 := t1.length
                rw [List.length_append] at l5
                refine ⟨rfl, Lib.hid ⟨d ++ s', q, by rw [List.length_append]; omega, by rw [hB, Nat.add_mod_right]; exact l2, blk_snoc (by omega) hb (by rw [l1]; exact l2) t2 (by omega), hbr3, ?_, by simpa using t3⟩⟩
                refine hst.trans ?_
                have := (St.refl d).append (t1.append (St.refl q))
                simpa using this)
              have q2 : (B : Int) ≤ (N : Int) := by omega
              clear HR hlt2 hM
              rw [zB]
              clear zB
              have HB := Lib.hid hB
              clear hB
              go_wp2_with fail
              with_reducible refine HC.out.mono ?_
              rintro e w2 ⟨rfl, HR⟩
              clear HC
              go_wp2
              go_roundw
              case rel => exact ⟨B, rfl, by go_num, by omega, HR⟩
              case measure => have := HB.out; simp [intOf]; omega
            · have q2 : ¬ (A' : Int) + 2 * (bs : Int) ≤ (N : Int) := by omega
              obtain ⟨M, hM⟩ : ∃ M, M = A' + bs := ⟨_, rfl⟩
              have zM : (A' : Int) + (bs : Int) = (M : Int) := by omega
              by_cases hMN : M < N
              · have HC : Hid (Calls Tryz.prog 149 #[.slice (some ⟨g, off, none⟩) N cap, .int .i64 A', .int .i64 M, .int .i64 N, .func (.func 104) #[] #[]] wr fun e w' => e = .returned (.tuple #[]) ∧ Hid (∃ t, Blk (2 * bs) t ∧ St l t ∧ In base w0 g off t w')) := Lib.hid (by
                  obtain ⟨d, r, l1, l2, hb, hbr, hst, hin⟩ := HR.out
                  have hlen := hst.length
                  rw [HN.out, List.length_append] at hlen
                  obtain ⟨x, y, rfl, l3⟩ := cut_two (X := r) (j := bs) (by omega)
                  rw [List.length_append] at hlen
                  have hbr2 := blk_cut (by omega) hbr (by rw [l3]; exact Nat.mod_self _)
                  refine (sym_all (N - A') base g off cap A' M N N d x y [] w0 wr (by simpa using hin) ⟨l1, by omega, by omega⟩ (fun z hz => HM.out z (hst.mem.1 (by simp at hz ⊢; rcases hz with h | h <;> simp [h]))) (blk_sd hbr (by omega)) (blk_whole hbr2 (by omega)) (by omega) (by omega) (Nat.le_refl _) (by simp only [List.length_append, List.length_nil]; omega) hsz).mono ?_
                  rintro e w' ⟨rfl, s', t1, t2, t3⟩
                  have l5 := t1.length
                  rw [List.length_append] at l5
                  refine ⟨rfl, Lib.hid ⟨d ++ s', blk_snoc (by omega) hb (by rw [l1]; exact l2) t2 (by omega), ?_, by simpa using t3⟩⟩
                  exact hst.trans ((St.refl d).append t1))
                have q3 : (M : Int) < (N : Int) := by omega
                clear HR hM
                go_wp2_with fail
                with_reducible refine HC.out.mono ?_
                rintro e w2 ⟨rfl, HR⟩
                clear HC
                go_wp2
                go_roundw
                case rel => exact ⟨2 * bs, by first | rfl | (congr 1; omega), by omega, by omega, HR⟩
                case measure => simp [intOf]; omega
              · have HR2 : Hid (∃ t, Blk (2 * bs) t ∧ St l t ∧ In base w0 g off t wr) := Lib.hid (by
                  obtain ⟨d, r, l1, l2, hb, hbr, hst, hin⟩ := HR.out
                  have hlen := hst.length
                  rw [HN.out, List.length_append] at hlen
                  exact ⟨d ++ r, blk_snoc (by omega) hb (by rw [l1]; exact l2) (blk_whole hbr (by omega)) (by omega), hst, hin⟩)
                have q3 : ¬ (M : Int) < (N : Int) := by omega
                clear HR hM
                go_wp2
                go_roundw
                case rel => exact ⟨2 * bs, by first | rfl | (congr 1; omega), by omega, by omega, HR2⟩
                case measure => simp [intOf]; omega
        · have q1 : ¬ (bs : Int) < (N : Int) := by omega
          have hF : Hid (∃ s', St l s' ∧ Sd s' ∧ In base w0 g off s' wr) := Lib.hid (by
            obtain ⟨t, h1, h2, h3⟩ := HR.out
            have := h2.length
            rw [HN.out] at this
            exact ⟨t, h2, blk_whole h1 (by omega), h3⟩)
          clear HR
          go_wp2
          go_end0
          exact ⟨rfl, hF.out⟩

theorem sortStable_is (base g off cap N : Nat) (l : List Int) (w0 w : World) (hI : In base w0 g off l w) (hM : Mk l) (hN : l.length = N) (hsz : N ≤ 1099511627776) :
    Calls Tryz.prog 103 #[.slice (some ⟨g, off, none⟩) N cap, .func (.func 104) #[] #[]] w (Stable base w0 g off l) := by
  have H := Lib.hid (stable_is base g off cap N l w0 w hI hM hN hsz)
  clear hI hM hN
  go_enter Tryz.func103, Tryz.ntmps103
  go_wp2_with fail
  with_reducible refine H.out.mono ?_
  rintro e w1 ⟨rfl, h1⟩
  go_wp2
  go_end0
  exact ⟨rfl, h1⟩
end Go.Proofs.YtipigfgnpfhdbaaGreatDoor.F
namespace Go.Proofs.YtipigfgnpfhdbaaGreatDoor.F
open Go.RowKit U
set_option linter.unusedVariables false

def CountPost (w : World) (l : List Int) (e : Ending) (w' : World) : Prop :=
  ∃ k : Nat, e = .returned (.int .i64 k) ∧ k ≤ l.length ∧ Hid ((∀ i x, i < k → l[i]? = some x → 0 < cls x) ∧ ∀ x, l[k]? = some x → cls x = 0) ∧ Gr w w'
def CountRel (w : World) (l : List Int) (i : Value) (w' : World) : Prop :=
  ∃ k : Nat, i = .int .i64 k ∧ k ≤ l.length ∧ Hid (∀ i x, i < k → l[i]? = some x → 0 < cls x) ∧ Gr w w'

set_option maxHeartbeats 2000000 in
theorem count_marks (A : Option Addr) (n c B : Nat) (l : List Int) (w : World) (hr : Rd w B .i32 A l) (hl : l.length = n) (hn : n ≤ 1099511627776) (hS : Sp w) :
    Calls Tryz.prog 102 #[.slice A n c] w (CountPost w l) := by
  have HR := Lib.hid hr
  have HL := Lib.hid hl
  have HS := Lib.hid hS
  clear hr hl hS
  go_enter Tryz.func102, Tryz.ntmps102
  go_wp2
  go_loopw [3] (fun i wr => CountRel w l i wr) (fun i _ => n - (intOf i).toNat)
  case atStart => exact ⟨0, rfl, Nat.zero_le _, Lib.hid fun i x h => by omega, Gr.refl _⟩
  case round =>
    obtain ⟨k, rfl, hk, HK, hg⟩ := hrel
    rw [HL.out] at hk
    by_cases hlt : k < n
    · obtain ⟨x, hx⟩ : ∃ x, l[k]? = some x := ⟨l[k]'(by rw [HL.out]; exact hlt), by simp⟩
      obtain ⟨g, off, rfl, _, hc⟩ := (HR.out.bel hg.bel) k x hx
      have q0 : (0 : Int) ≤ (k : Int) := by omega
      have q1 : (k : Int) < (n : Int) := by omega
      have HX := Lib.hid hx
      obtain ⟨b, hb⟩ : ∃ b, decide (0 < cls x) = b := ⟨_, rfl⟩
      have HM := Lib.hid (mark_is x b wr (HS.out.bel hg) hb)
      have HB := Lib.hid hb
      clear hx hb
      cases b with
      | true =>
        go_wp2_with (go_at_call 44; (with_reducible refine HM.out.mono ?_); rintro e w1 ⟨rfl, h1⟩)
        go_roundw
        case rel =>
          refine ⟨k + 1, by go_num, by rw [HL.out]; omega, Lib.hid fun i y hi hy => ?_, hg.trans h1⟩
          rcases Nat.lt_or_eq_of_le (Nat.le_of_lt_succ hi) with h | rfl
          · exact HK.out i y h hy
          · obtain rfl := Option.some.inj (HX.out.symm.trans hy)
            exact of_decide_eq_true HB.out
        case measure => simp [intOf]; omega
      | false =>
        go_wp2_with (go_at_call 44; (with_reducible refine HM.out.mono ?_); rintro e w1 ⟨rfl, h1⟩)
        go_ret
        refine ⟨k, rfl, by rw [HL.out]; omega, Lib.hid ⟨HK.out, fun y hy => ?_⟩, hg.trans h1⟩
        obtain rfl := Option.some.inj (HX.out.symm.trans hy)
        have h2 := of_decide_eq_false HB.out
        have h3 := cls_nn x
        omega
    · obtain rfl : k = n := by omega
      have q1 : ¬ (k : Int) < (k : Int) := by omega
      go_wp2
      go_ret
      refine ⟨k, rfl, by rw [HL.out]; omega, Lib.hid ⟨HK.out, fun y hy => ?_⟩, hg⟩
      have := (List.getElem?_eq_some_iff.1 hy).1
      rw [HL.out] at this
      omega

/-! One run after another. -/
theorem ord_run {dO d s s' : List Int} (h : Ord dO d) (hd : ∀ c, d.getLast? = some c → cls c = 0) (t : St s s') (hs : Sd s') : Ord (dO ++ s) (d ++ s') := by
  refine ⟨h.1.append t, fun i x y hx hy hp => ?_⟩
  by_cases h1 : i + 1 < d.length
  · rw [List.getElem?_append_left (by omega)] at hx
    rw [List.getElem?_append_left h1] at hy
    exact h.2 i x y hx hy hp
  · by_cases h2 : i < d.length
    · rw [List.getElem?_append_left h2] at hx
      have := hd x (by rw [List.getLast?_eq_getElem?, show d.length - 1 = i by omega]; exact hx)
      omega
    · rw [List.getElem?_append_right (by omega)] at hx hy
      rw [show i + 1 - d.length = i - d.length + 1 by omega] at hy
      exact hs.srt _ x y hx hy hp
theorem ord_start {dO d : List Int} {c : Int} (h : Ord dO d) (hc : cls c = 0) : Ord (dO ++ [c]) (d ++ [c]) := by
  refine ord_append h (ord_self fun i x y hx hy hp => ?_) (by simpa using hc)
  have := (List.getElem?_eq_some_iff.1 hy).1
  simp at this
theorem ord_nil : Ord [] [] := ord_self Srt.nil
/-- A list of its own, sorted. -/
def OrdPost (w : World) (l : List Int) (e : Ending) (w' : World) : Prop := ∃ v l', e = .returned v ∧ Ord l l' ∧ U.Own w' w.heap.size 21 .i32 v l' ∧ Bel w w'

def OrdRel (base : Nat) (w1 : World) (g N : Nat) (l : List Int) (i : Value) (w : World) : Prop :=
  ∃ k : Nat, i = .int .i64 k ∧ k ≤ N + 1 ∧ Hid ((k ≤ N ∧ ∃ dO d r, l = dO ++ r ∧ d.length = k ∧ Ord dO d ∧ (∀ c, d.getLast? = some c → cls c = 0) ∧ In base w1 g 0 (d ++ r) w) ∨ (k = N + 1 ∧ ∃ d, Ord l d ∧ In base w1 g 0 d w))

set_option maxRecDepth 100000 in
set_option maxHeartbeats 4000000 in
theorem order_is (A : Option Addr) (n c B : Nat) (l : List Int) (w : World) (hr : Rd w B .i32 A l) (hl : l.length = n) (hnil : A = none → c = 0) (hn : n ≤ 1099511627776) (hS : Sp w) :
    Calls Tryz.prog 64 #[.slice A n c] w (OrdPost w l) := by
  obtain ⟨i0, hi0, hz0, hz1, hz2⟩ := info_parts info21
  have HR := Lib.hid hr
  have HL := Lib.hid hl
  have HS := Lib.hid hS
  have HO := Lib.hid (Own.nil w w.heap.size 21 .i32)
  have HNIL := Lib.hid hnil
  clear hr hl hS hnil
  go_enter Tryz.func64, Tryz.ntmps64
  go_wp2_with (first | (at_builtin; refine wpl_append (by rfl) (.const (.slice none 0 0)) (.tmp 6) 22 rfl Tryz.underlying22 hi0 hz0 hz1 hz2 rfl (by omega) HO.out rfl HR.out rfl HL.out HNIL.out (by simpa using hn) (Nat.le_refl _) ?_; intro v w1 hown hb1) | fail)
  rw [List.nil_append] at hown
  have HB1 := Lib.hid (show Bel w w1 from hb1)
  by_cases hl0 : l = []
  · have hn0 : n = 0 := by rw [← HL.out, hl0]; rfl
    subst hn0
    obtain ⟨A', cap, rfl, _, _, _⟩ := hown.rdn HL.out
    have HOW := Lib.hid hown
    have H0 := Lib.hid hl0
    clear hown hl0 hb1 HO HR HNIL
    go_wp2
    go_loopw [4] (fun i wr => i = .int .i64 0 ∧ wr = w1) (fun i _ => 0)
    case atStart => exact ⟨rfl, rfl⟩
    case round =>
      obtain ⟨rfl, rfl⟩ := hrel
      go_wp2
      go_ret
      exact ⟨_, l, rfl, by rw [H0.out]; exact ord_nil, HOW.out, HB1.out⟩
  · obtain ⟨g, cap, rfl, hcap, hin⟩ := In.start hown hl0 (HS.out.by hb1) HS.out.size hb1.size
    rw [HL.out] at hcap
    have hown' := hown
    rw [HL.out] at hown'
    have HOW := Lib.hid hown'
    have HIN := Lib.hid hin
    have hlen : ((l.length : Nat) : Int) = (n : Int) := by rw [HL.out]
    rw [HL.out]
    clear hown hown' hl0 hb1 HO HR HNIL hin hlen
    obtain ⟨base, hbase⟩ : ∃ base, w.heap.size = base := ⟨_, rfl⟩
    rw [hbase] at HOW HIN
    have HBASE := Lib.hid hbase
    clear hbase
    go_wp2
    go_loopw [4] (fun i wr => OrdRel base w1 g n l i wr) (fun i _ => n + 1 - (intOf i).toNat)
    case atStart => exact ⟨0, rfl, by omega, Lib.hid (.inl ⟨Nat.zero_le _, [], [], l, rfl, rfl, ord_nil, by simp, HIN.out⟩)⟩
    case round =>
      clear HIN
      obtain ⟨k, rfl, hk, HK⟩ := hrel
      by_cases hlt : k < n
      · obtain ⟨dO, d, r, e1, e2, e3, e4, hin⟩ : ∃ dO d r, l = dO ++ r ∧ d.length = k ∧ Ord dO d ∧ (∀ c, d.getLast? = some c → cls c = 0) ∧ In base w1 g 0 (d ++ r) wr := by
          rcases HK.out with ⟨_, h⟩ | ⟨h, _⟩
          · exact h
          · omega
        have hrl : r.length = n - k := by
          have h1 := HL.out
          rw [e1, List.length_append] at h1
          have h2 := e3.1.length
          omega
        obtain ⟨m, hm⟩ : ∃ m, n - k = m := ⟨_, rfl⟩
        have hrd : Rd wr wr.heap.size .i32 (some ⟨g, k, none⟩) r := fun i x hx => by
          refine ⟨g, k, rfl, hin.2.2.2.2.2.2.1, ?_⟩
          have := hin.cell (i := k + i) (x := x) (by rw [List.getElem?_append_right (by omega), show k + i - d.length = i by omega]; exact hx)
          rwa [Nat.zero_add] at this
        have HC := Lib.hid (fun c => count_marks (some ⟨g, k, none⟩) m c wr.heap.size r wr hrd (by omega) (by omega) hin.2.2.1)
        have HIN := Lib.hid hin
        have HE : Hid (l = dO ++ r ∧ d.length = k ∧ Ord dO d ∧ (∀ c, d.getLast? = some c → cls c = 0) ∧ r.length = m) := Lib.hid ⟨e1, e2, e3, e4, by omega⟩
        have q0 : (0 : Int) ≤ (k : Int) := by omega
        have q1 : (k : Int) < (n : Int) := by omega
        have q2 : (k : Int) ≤ (n : Int) := by omega
        have q3 : (n : Int) ≤ (cap : Int) := by omega
        have q4 : n - k = m := hm
        clear e1 e2 e3 e4 hin hrd hrl HK hm
        go_wp2_with fail
        with_reducible refine (HC.out _).mono ?_
        rintro e w2 ⟨t, rfl, ht, HT, hg2⟩
        obtain ⟨s, r', er, ls⟩ := cut_two (X := r) (j := t) ht
        rw [HE.out.2.2.2.2] at ht
        have hMs : Mk s := fun z hz => by
          obtain ⟨j, hj⟩ := List.getElem?_of_mem hz
          have hjl := (List.getElem?_eq_some_iff.1 hj).1
          exact HT.out.1 j z (by omega) (by rw [er, List.getElem?_append_left hjl]; exact hj)
        have hin2 := HIN.out.gr hg2
        rw [er] at hin2
        have hsub := hin2.sub (A := d) (s := s) (B := r') HE.out.2.1
        have HSO := Lib.hid (fun c => sortStable_is base g k c t s w2 w2 hsub hMs ls (by omega))
        have HI2 := Lib.hid hin2
        have HER := Lib.hid er
        have HLS := Lib.hid ls
        have q5 : (0 : Int) ≤ (t : Int) := by omega
        have q6 : (k : Int) ≤ (k : Int) + (t : Int) := by omega
        have q7 : (k : Int) + (t : Int) ≤ (cap : Int) := by omega
        have q8 : k + t - k = t := by omega
        have q9 : k + t ≤ n := by omega
        clear hMs hin2 hsub er ls HC HIN hg2
        go_wp2_with fail
        with_reducible refine (HSO.out _).mono ?_
        rintro e w3 ⟨rfl, s', t1, t2, t3⟩
        have HREL : Hid (OrdRel base w1 g n l (.int .i64 ((k : Int) + ((t : Int) + 1))) w3) := Lib.hid (by
          have hin3 := HI2.out.sup HE.out.2.1 t3 t1.length
          obtain ⟨e1, e2, e3, e4, e5⟩ := HE.out
          have hlen := HER.out
          have hls := HLS.out
          have h5 := ord_run e3 e4 t1 t2
          refine ⟨k + (t + 1), by congr 1, by omega, Lib.hid ?_⟩
          cases hr' : r' with
          | nil =>
            subst hr'
            rw [List.append_nil] at hlen
            refine .inr ⟨by rw [hlen] at e5; omega, d ++ s', ?_, by simpa using hin3⟩
            rw [e1, hlen]; exact h5
          | cons z r2 =>
            subst hr'
            have hz : cls z = 0 := HT.out.2 z (by rw [hlen, List.getElem?_append_right (by omega), hls]; simp)
            have h6 := ord_start h5 hz
            rw [hlen] at e5
            simp only [List.length_append, List.length_cons] at e5
            have h7 := t1.length
            refine .inl ⟨by omega, dO ++ s ++ [z], d ++ s' ++ [z], r2, by rw [e1, hlen]; simp, by simp only [List.length_append, List.length_cons, List.length_nil]; omega, h6, fun c hc => ?_, by simpa using hin3⟩
            simp at hc
            rw [← hc]; exact hz)
        clear t1 t2 t3 HSO HI2 HER HLS HE HT
        go_wp2
        go_roundw
        case rel => exact HREL.out
        case measure => simp [intOf]; omega
      · have q1 : ¬ (k : Int) < (n : Int) := by omega
        have hF : Hid (∃ d, Ord l d ∧ In base w1 g 0 d wr) := Lib.hid (by
          rcases HK.out with ⟨h0, dO, d, r, e1, e2, e3, e4, hin⟩ | ⟨_, h⟩
          · have h1 := HL.out
            rw [e1, List.length_append] at h1
            have h2 := e3.1.length
            obtain rfl : r = [] := List.eq_nil_of_length_eq_zero (by omega)
            rw [List.append_nil] at e1 hin
            exact ⟨d, by rw [e1]; exact e3, hin⟩
          · exact h)
        clear HK
        go_wp2
        go_ret
        obtain ⟨d, h1, h2⟩ := hF.out
        refine ⟨_, d, rfl, h1, ?_, ?_⟩
        · rw [HBASE.out]
          exact In.own HOW.out h2 h1.1.length
        · have h3 := h2.1
          rw [← HBASE.out] at h3
          exact Below.trans HB1.out h3
end Go.Proofs.YtipigfgnpfhdbaaGreatDoor.F
namespace Go.Proofs.YtipigfgnpfhdbaaGreatDoor.F
open Go.RowKit U
set_option linter.unusedVariables false

def rrow4 (s : Row) : List Value := [.int .i64 s.1, .int .i64 s.2.1, .int .i64 s.2.2.1, .int .i64 s.2.2.2]
def rtabC : List Value := rtab.flatMap rrow4
def Rs (w : World) (g : Nat) : Prop := w.rangeAt g 0 rtabC
theorem Rs.bel {w w' : World} {g : Nat} (h : Rs w g) (hb : Gr w w') : Rs w' g := fun j v hv => by
  have := h j v hv
  exact (Below.cell hb.bel (p := ⟨g, 0 + j, none⟩) (cell_block this)).trans this
theorem Rs.at {w : World} {g : Nat} (h : Rs w g) {i : Nat} {s : Row} (hi : rtab[i]? = some s) :
    w.cell? ⟨g, i * 4, none⟩ = some (.int .i64 s.1) ∧ w.cell? ⟨g, i * 4 + 1, none⟩ = some (.int .i64 s.2.1) ∧ w.cell? ⟨g, i * 4 + 2, none⟩ = some (.int .i64 s.2.2.1) ∧ w.cell? ⟨g, i * 4 + 3, none⟩ = some (.int .i64 s.2.2.2) := by
  have k : ∀ j v, j < 4 → (rrow4 s)[j]? = some v → w.cell? ⟨g, i * 4 + j, none⟩ = some v := fun j v hj hv => by
    have := h (i * 4 + j) v ((flat4 rrow4 (fun _ => rfl) rtab i s hi j hj).trans hv)
    rwa [Nat.zero_add] at this
  exact ⟨k 0 _ (by omega) rfl, k 1 _ (by omega) rfl, k 2 _ (by omega) rfl, k 3 _ (by omega) rfl⟩
def SpansPost (w : World) (e : Ending) (w' : World) : Prop := ∃ g, e = .returned (.slice (some ⟨g, 0, none⟩) 43 43) ∧ Rs w' g ∧ Gr w w'

theorem wp_val {P : Program} {o : Oper} {a : Act} {w : World} {K : Act → World → Prop} {Q : Exit → Act → World → Prop} (v : Value) (w' : World) (h : (execOp a.eval o).run P w = .ok (.value v) w') (hK : K (a.put o.dst v) w') : o.wp P a w K Q := by
  unfold Oper.wp; rw [h]; exact hK

set_option maxRecDepth 100000 in
set_option maxHeartbeats 4000000 in
theorem rspans_any (w : World) : Calls Tryz.prog 27 #[] w (SpansPost w) := by
  go_enter Tryz.func27, Tryz.ntmps27
  go_wp2
  rename_i K1 h1 K2 h2
  refine wp_val (.slice (some ⟨w.heap.size, 0, none⟩) 43 43) (w.alloc (.cells rtabC.toArray 58)) ?_ ?_
  · kernel_rfl
  · apply h2
    go_wp2
    go_ret
    refine ⟨w.heap.size, rfl, fun j v hv => ?_, (Gr.refl _).alloc _⟩
    rw [Nat.zero_add]
    refine (World.cell?_alloc_mark w _ 58 (0, 0) j).trans ?_
    simpa using hv
end Go.Proofs.YtipigfgnpfhdbaaGreatDoor.F
namespace Go.Proofs.YtipigfgnpfhdbaaGreatDoor.F
open Go.RowKit U
set_option linter.unusedVariables false

def ClassRel (w : World) (r : Int) (i : Value) (w' : World) : Prop :=
  ∃ k : Nat, i = .int .i64 k ∧ k ≤ 43 ∧ Hid (∀ j u, j < k → rtab[j]? = some u → inB u r = false) ∧ ∃ q, w' = w.drewN q

set_option maxRecDepth 100000 in
set_option maxHeartbeats 4000000 in
theorem rclass_is (r v : Int) (w : World) (hr : -2147483648 ≤ r ∧ r ≤ 2147483647) (hv : cls r = v) : Calls Tryz.prog 12 #[.int .i32 r] w (IntG w v) := by
  have HV := Lib.hid ((rcls_is r).trans hv)
  clear hv
  obtain ⟨r0, r1⟩ := hr
  go_enter Tryz.func12, Tryz.ntmps12
  go_wp2_with (go_at_call 27; refine (rspans_any w).mono ?_; rintro e w1 ⟨g, rfl, hR, hb1⟩)
  have HR := Lib.hid hR
  clear hR
  go_loopw [4] (fun i wr => ClassRel w1 r i wr) (fun i _ => 43 - (intOf i).toNat)
  case atStart => exact ⟨0, rfl, by omega, Lib.hid fun j u hj => by omega, 0, rfl⟩
  case round =>
    obtain ⟨k, rfl, hk, HK, q, rfl⟩ := hrel
    by_cases hlt : k < 43
    · obtain ⟨s, hs⟩ := rtab_at hlt
      obtain ⟨d0, d1, d2, d3⟩ := HR.out.at hs
      have hrow := rtab_row hs
      have q0 : (0 : Int) ≤ (k : Int) := by omega
      have q1 : (k : Int) < 43 := by omega
      obtain ⟨s0, s1, s2, s3⟩ := s
      dsimp only at d0 d1 d2 d3 hrow
      by_cases hin : inB (s0, s1, s2, s3) r = true
      · have e0 := HV.out
        rw [look_at hs HK.out hin] at e0
        have hin' := inB_true.1 hin
        dsimp only [cval] at hin' e0
        obtain ⟨g0, g1⟩ := hin'
        obtain ⟨h0, h1, h2, h3, h4, h5⟩ := hrow
        have p0 : ¬ r < s0 := by omega
        clear hin HK hs HV HR
        rcases h5 with rfl | rfl
        · rw [Int.mul_zero, Int.add_zero] at e0
          subst e0
          go_wp2
          go_quiet (fail)
          go_wp2
          go_ret
          exact ⟨by first | rfl | exact ret_int (by omega), (hb1.drewN _).drewN _⟩
        · rw [Int.mul_one] at e0
          have q2 : 0 ≤ r - s0 := by omega
          have q3 : r - s0 ≤ 65059 := by omega
          go_wp2
          go_quiet (fail)
          go_wp2
          go_ret
          exact ⟨by first | rfl | exact ret_int (by omega), (hb1.drewN _).drewN _⟩
      · have hin0 : inB (s0, s1, s2, s3) r = false := by simpa using hin
        have hin' := inB_false.1 hin0
        dsimp only at hin'
        have HN : Hid (∀ j u, j < k + 1 → rtab[j]? = some u → inB u r = false) := Lib.hid fun j u hj hu => by
          rcases Nat.lt_or_eq_of_le (Nat.le_of_lt_succ hj) with h | rfl
          · exact HK.out j u h hu
          · obtain rfl := Option.some.inj (hs.symm.trans hu)
            exact hin0
        clear hin hin0 HK hs
        by_cases h1 : r < s0
        · go_wp2
          go_roundw
          case rel => exact ⟨k + 1, by go_num, by omega, HN, q, rfl⟩
          case measure => simp [intOf]; omega
        · have h2 : s1 < r := by omega
          clear hin'
          go_wp2
          go_roundw
          case rel => exact ⟨k + 1, by go_num, by omega, HN, q, rfl⟩
          case measure => simp [intOf]; omega
    · obtain rfl : k = 43 := by omega
      have e0 := HV.out
      rw [look_none fun s hs => by
        obtain ⟨i, hi⟩ := List.getElem?_of_mem hs
        exact HK.out i s (by rw [← rtab_len]; exact (List.getElem?_eq_some_iff.1 hi).1) hi] at e0
      subst e0
      clear HV HK HR
      go_wp2
      go_ret
      exact ⟨rfl, hb1.drewN _⟩
end Go.Proofs.YtipigfgnpfhdbaaGreatDoor.F
namespace Go.Proofs.YtipigfgnpfhdbaaGreatDoor.F
open Go.RowKit U
set_option linter.unusedVariables false

/-- Characters are 32 bits. -/
def Fit (l : List Int) : Prop := ∀ x ∈ l, -2147483648 ≤ x ∧ x ≤ 2147483647
theorem rclass_at (x c : Int) (w : World) (hf : -2147483648 ≤ x ∧ x ≤ 2147483647) (hc : cls x = c) (n : Nat) (os : Array Obj) :
    Calls Tryz.prog 12 #[.int .i32 x] (Sort.grow (w.drewN n) os) fun e w' => e = .returned (.int .i64 c) ∧ ∃ q os', w' = Sort.grow ((Sort.grow (w.drewN n) os).drewN q) os' :=
  rclass_is x c _ hf hc
theorem Own.empty_at {w : World} {n : Nat} (e : TypeId) (k : IntKind) (h : w.heap.size = n) : U.Own (w.alloc (.cells #[] e)) n e k (.slice (some ⟨n, 0, none⟩) 0 0) [] := by
  subst h; exact Own.empty w e k

/-- Sorted as far as k. -/
def Upto (t : List Int) (k : Nat) : Prop := ∀ i a b, i < k → t[i]? = some a → t[i + 1]? = some b → 0 < cls b → cls a ≤ cls b
def ROut (base : Nat) (w1 : World) (g : Nat) (l : List Int) (gh : Nat) (b : Value) (w : World) : Prop :=
  ∃ c : Bool, b = .bool c ∧ Hid (∃ t, St l t ∧ (c = false → Srt t) ∧ In base w1 g 0 t w ∧ far t + c.toNat ≤ gh)
def RIn (base : Nat) (w1 : World) (g n : Nat) (l t : List Int) (b i : Value) (w : World) : Prop :=
  ∃ (c : Bool) (k : Nat), b = .bool c ∧ i = .int .i64 k ∧ k ≤ n ∧ Hid (∃ t', St l t' ∧ (c = false → t' = t ∧ Upto t k) ∧ (c = true → far t' < far t) ∧ In base w1 g 0 t' w)

set_option maxRecDepth 1000000 in
set_option maxHeartbeats 8000000 in
theorem rorder_is (A : Option Addr) (n c B : Nat) (l : List Int) (w : World) (hr : Rd w B .i32 A l) (hl : l.length = n) (hnil : A = none → c = 0) (hn : n ≤ 1099511627776) (hS : Sp w) (hf : Fit l) :
    Calls Tryz.prog 15 #[.slice A n c] w (OrdPost w l) := by
  obtain ⟨i0, hi0, hz0, hz1, hz2⟩ := info_parts info21
  have hmix := mixed
  have HR := Lib.hid (hr.alloc (.cells #[] 21))
  have HL := Lib.hid hl
  have HS := Lib.hid hS
  have HF := Lib.hid hf
  have HO := Lib.hid (Own.empty_at (w := w) 21 .i32 rfl)
  have HNIL := Lib.hid hnil
  clear hr hl hS hnil hf
  go_enter Tryz.func15, Tryz.ntmps15
  go_wp2_with (first | (at_builtin; refine wpl_append (by rfl) (.tmp 8) (.tmp 9) 22 rfl Tryz.underlying22 hi0 hz0 hz1 hz2 rfl (by omega) HO.out rfl HR.out rfl HL.out HNIL.out (by simpa using hn) (by simp) ?_; intro v w1 hown hb1) | fail)
  rw [List.nil_append] at hown
  have HB1 := Lib.hid (show Bel w w1 from Below.trans ((Bel.refl w).alloc _) hb1)
  by_cases hl0 : l = []
  · have hn0 : n = 0 := by rw [← HL.out, hl0]; rfl
    subst hn0
    obtain ⟨A', cap, rfl, _, _, _⟩ := hown.rdn HL.out
    have HOW := Lib.hid hown
    have H0 := Lib.hid hl0
    clear hown hl0 hb1 HO HR HNIL
    go_wp2
    go_loopw [4] (fun b wr => ∃ c : Bool, b = .bool c ∧ wr = w1) (fun b _ => match b with | .bool true => 1 | _ => 0)
    case atStart => exact ⟨true, rfl, rfl⟩
    case round =>
      obtain ⟨c, rfl, rfl⟩ := hrel
      cases c with
      | true =>
        go_wp2
        go_loopw [4, 5] (fun b i wr' => b = .bool false ∧ i = .int .i64 0 ∧ wr' = wr) (fun _ _ _ => 0)
        case atStart => exact ⟨rfl, rfl, rfl⟩
        case round =>
          obtain ⟨rfl, rfl, rfl⟩ := hrel
          go_wp2
          go_roundw
          case rel => exact ⟨false, rfl, by first | rfl | trivial⟩
          case measure => simp
      | false =>
        go_wp2
        go_ret
        exact ⟨_, l, rfl, by rw [H0.out]; exact ord_nil, HOW.out, HB1.out⟩
  · obtain ⟨g, cap, rfl, hcap, hin⟩ := In.start hown hl0 (HS.out.by HB1.out) HS.out.size HB1.out.size
    rw [HL.out] at hcap
    have hown' := hown
    rw [HL.out] at hown'
    have HOW := Lib.hid hown'
    have HIN := Lib.hid hin
    rw [HL.out]
    clear hown hown' hl0 hb1 HO HR HNIL hin
    obtain ⟨base, hbase⟩ : ∃ base, w.heap.size = base := ⟨_, rfl⟩
    rw [hbase] at HOW HIN
    have HBASE := Lib.hid hbase
    clear hbase
    go_wp2
    go_loopg [4] (far l + 1) (fun gh b wr => ROut base w1 g l gh b wr)
    case atStart => exact ⟨true, rfl, Lib.hid ⟨l, St.refl _, (fun h => by cases h), HIN.out, by simp⟩⟩
    case round =>
      clear HIN
      obtain ⟨c, rfl, HK⟩ := hrel
      cases c with
      | true =>
        obtain ⟨t, h1, _, h3, h4⟩ := HK.out
        have HT : Hid (St l t ∧ far t + 1 ≤ gk ∧ t.length = n) := Lib.hid ⟨h1, by simpa using h4, by rw [h1.length]; exact HL.out⟩
        have HIN := Lib.hid h3
        clear h1 h3 h4 HK
        generalize wr = wo at HIN ⊢
        clear wr
        go_wp2
        go_loopw [4, 5] (fun b i wr => RIn base w1 g n l t b i wr) (fun _ i _ => n - (intOf i).toNat)
        case atStart => exact ⟨false, 0, rfl, rfl, Nat.zero_le _, Lib.hid ⟨t, HT.out.1, (fun _ => ⟨rfl, fun i a b h => by omega⟩), (fun h => by cases h), HIN.out⟩⟩
        case round =>
          clear HIN
          obtain ⟨c, k, rfl, rfl, hk, HK⟩ := hrel
          by_cases hlt : k + 1 < n
          · obtain ⟨t', h1, h2, h3, hin⟩ := HK.out
            have hlen : t'.length = n := by rw [h1.length]; exact HL.out
            obtain ⟨X, r1, e1, l1⟩ := cut_two (X := t') (j := k) (by omega)
            obtain ⟨x, y, Y, rfl⟩ : ∃ x y Y, r1 = x :: ([] ++ y :: Y) := by
              rw [e1, List.length_append] at hlen
              match r1, hlen with
              | [], h => simp at h; omega
              | [_], h => simp at h; omega
              | x :: y :: Y, _ => exact ⟨x, y, Y, rfl⟩
            obtain ⟨k1, hk1⟩ : ∃ k1, k + 1 = k1 := ⟨_, rfl⟩
            have hJ : k + 1 + ([] : List Int).length = k1 := by simpa using hk1
            rw [e1] at hin
            have g1 := at_mid X x ([] ++ y :: Y) l1
            have g2 := at_mid2 X x [] y Y l1 hJ
            have hne : k ≠ k1 := by omega
            have fx := HF.out x (h1.mem.1 (by rw [e1]; simp))
            have fy := HF.out y (h1.mem.1 (by rw [e1]; simp))
            obtain ⟨cx, hcx⟩ : ∃ c, cls x = c := ⟨_, rfl⟩
            obtain ⟨cy, hcy⟩ : ∃ c, cls y = c := ⟨_, rfl⟩
            have la := hin.cells g1
            have lb := hin.cells g2
            simp only [Nat.zero_add] at la lb
            have ha := rclass_at x cx wr fx hcx
            have hb := rclass_at y cy wr fy hcy
            have HIN := Lib.hid hin
            have HG1 := Lib.hid g1
            have HG2 := Lib.hid g2
            have ea : ((k : Int) + 1).toNat = k1 := by omega
            have pa : (0 : Int) ≤ (k : Int) + 1 := by omega
            have ba : (k : Int) + 1 < (n : Int) := by omega
            have ra : IntKind.i64.wrap ((k : Int) + 1) = (k : Int) + 1 := by rw [IntKind.wrap_i64]; omega
            have pc : (0 : Int) ≤ (k : Int) := by omega
            have bc : (k : Int) < (n : Int) := by omega
            have hnn := cls_nn y
            rw [hcy] at hnn
            by_cases hsw : 0 < cy ∧ cy < cx
            · obtain ⟨s1, s2⟩ := hsw
              have HSW : Hid (∀ w', In base w1 g 0 (X ++ x :: ([] ++ y :: Y)) w' → In base w1 g 0 (X ++ y :: ([] ++ x :: Y)) ((w'.setCell ⟨g, 0 + k, none⟩ (.int .i32 y)).setCell ⟨g, 0 + k1, none⟩ (.int .i32 x)).drew) := Lib.hid fun w' hi => hi.swap HG1.out HG2.out hne (swap_mid X x y [] Y l1 hJ)
              have HV : Hid (∀ w', In base w1 g 0 (X ++ y :: ([] ++ x :: Y)) w' → RIn base w1 g n l t (.bool true) (.int .i64 ((k : Int) + 1)) w') := Lib.hid fun w' hi => by
                have hst : St t' (X ++ y :: x :: Y) := by rw [e1]; exact St.swap X Y (by omega) (by omega) (by omega)
                have hfar : far (X ++ y :: x :: Y) < far t' := by rw [e1]; exact far_swap (by omega) X Y
                refine ⟨true, k + 1, rfl, by go_num, by omega, Lib.hid ⟨X ++ y :: x :: Y, h1.trans hst, (fun h => by cases h), fun _ => ?_, by simpa using hi⟩⟩
                cases c with
                | true => have := h3 rfl; omega
                | false => rw [(h2 rfl).1] at hfar; exact hfar
              clear hin g1 g2 hJ h1 h2 h3 e1 l1 HK hcx hcy fx fy hlen hk1 hnn
              go_wp2_with fail
              go_quiet_grown (first | (go_at_call_of 12 x; with_reducible refine Calls.grown_of (ha _ _)) | (go_at_call_of 12 y; with_reducible refine Calls.grown_of (hb _ _)))
              have S2 : Hid (In base w1 g 0 (X ++ x :: ([] ++ y :: Y)) (Sort.grow (wr.drewN nq) osq)) := Lib.hid (HIN.out.gr ⟨nq, osq, rfl⟩)
              clear la lb ha hb HIN
              generalize Sort.grow (wr.drewN nq) osq = w2 at S2 ⊢
              have c1 := S2.out.cell HG1.out
              have c2 := S2.out.cell HG2.out
              have f1 := S2.out.free HG1.out
              have f2 := S2.out.free HG2.out
              have c3 := S2.out.c2 HG2.out hne (.int .i32 y)
              have S3 : Hid (In base w1 g 0 (X ++ y :: ([] ++ x :: Y)) ((w2.setCell ⟨g, 0 + k, none⟩ (.int .i32 y)).setCell ⟨g, 0 + k1, none⟩ (.int .i32 x)).drew) := Lib.hid (HSW.out _ S2.out)
              rw [Nat.zero_add] at c1 f1
              simp only [Nat.zero_add] at c2 f2 c3 S3
              clear S2 HSW HG1 HG2 hne
              go_wp2_with fail
              go_region
              clear c1 c2 c3 f1 f2
              generalize ((w2.setCell ⟨g, k, none⟩ (.int .i32 y)).setCell ⟨g, k1, none⟩ (.int .i32 x)).drew = w3 at S3 ⊢
              clear ea
              go_wp2
              go_roundw
              case rel => exact HV.out _ S3.out
              case measure => simp [intOf]; omega
            · have HV : Hid (∀ w', In base w1 g 0 (X ++ x :: ([] ++ y :: Y)) w' → RIn base w1 g n l t (.bool c) (.int .i64 ((k : Int) + 1)) w') := Lib.hid fun w' hi => by
                refine ⟨c, k + 1, rfl, by go_num, by omega, Lib.hid ⟨t', h1, fun hc => ?_, h3, by rw [e1]; exact hi⟩⟩
                obtain ⟨q1, q2⟩ := h2 hc
                refine ⟨q1, fun i a b hi ha' hb' hp => ?_⟩
                rcases Nat.lt_or_eq_of_le (Nat.le_of_lt_succ hi) with h | rfl
                · exact q2 i a b h ha' hb' hp
                · rw [← q1, e1] at ha' hb'
                  obtain rfl := Option.some.inj (HG1.out.symm.trans ha')
                  rw [hk1] at hb'
                  obtain rfl := Option.some.inj (HG2.out.symm.trans hb')
                  omega
              have HSW := Lib.hid hsw
              clear hin g1 g2 hJ h1 h2 h3 e1 l1 HK hcx hcy fx fy hlen hk1 hsw
              by_cases s1 : 0 < cy
              · have s2 : ¬ cy < cx := fun h => HSW.out ⟨s1, h⟩
                go_wp2_with fail
                go_quiet_grown (first | (go_at_call_of 12 x; with_reducible refine Calls.grown_of (ha _ _)) | (go_at_call_of 12 y; with_reducible refine Calls.grown_of (hb _ _)))
                have S2 : Hid (In base w1 g 0 (X ++ x :: ([] ++ y :: Y)) (Sort.grow (wr.drewN nq) osq)) := Lib.hid (HIN.out.gr ⟨nq, osq, rfl⟩)
                clear la lb ha hb HIN
                generalize Sort.grow (wr.drewN nq) osq = w2 at S2 ⊢
                clear ea
                go_wp2
                go_roundw
                case rel => exact HV.out _ S2.out
                case measure => simp [intOf]; omega
              · go_wp2_with fail
                go_quiet_grown (first | (go_at_call_of 12 x; with_reducible refine Calls.grown_of (ha _ _)) | (go_at_call_of 12 y; with_reducible refine Calls.grown_of (hb _ _)))
                have S2 : Hid (In base w1 g 0 (X ++ x :: ([] ++ y :: Y)) (Sort.grow (wr.drewN nq) osq)) := Lib.hid (HIN.out.gr ⟨nq, osq, rfl⟩)
                clear la lb ha hb HIN
                generalize Sort.grow (wr.drewN nq) osq = w2 at S2 ⊢
                clear ea
                go_wp2
                go_roundw
                case rel => exact HV.out _ S2.out
                case measure => simp [intOf]; omega
          · have q1 : ¬ (k : Int) + 1 < (n : Int) := by omega
            obtain ⟨gn, hgn⟩ : ∃ gn, Hid (gn < gk ∧ ROut base w1 g l gn (.bool c) wr) := by
              obtain ⟨t', h1, h2, h3, hin⟩ := HK.out
              obtain ⟨a1, a2, a3⟩ := HT.out
              refine ⟨far t' + c.toNat, Lib.hid ⟨?_, c, rfl, Lib.hid ⟨t', h1, fun hc => ?_, hin, Nat.le_refl _⟩⟩⟩
              · cases c with
                | true => have := h3 rfl; simp; omega
                | false => rw [(h2 rfl).1]; simp; omega
              · obtain ⟨q1, q2⟩ := h2 hc
                subst q1
                intro i a b ha hb hp
                have := (List.getElem?_eq_some_iff.1 hb).1
                exact q2 i a b (by omega) ha hb hp
            clear HK
            go_wp2
            go_roundg gn
            case rel => exact hgn.out.2
            case measure => exact hgn.out.1
      | false =>
        have hF : Hid (∃ d, Ord l d ∧ In base w1 g 0 d wr) := Lib.hid (by
          obtain ⟨t, h1, h2, h3, h4⟩ := HK.out
          exact ⟨t, ⟨h1, h2 rfl⟩, h3⟩)
        clear HK
        go_wp2
        go_ret
        obtain ⟨d, h1, h2⟩ := hF.out
        refine ⟨_, d, rfl, h1, ?_, ?_⟩
        · rw [HBASE.out]
          exact In.own HOW.out h2 h1.1.length
        · have h3 := h2.1
          rw [← HBASE.out] at h3
          exact Below.trans HB1.out h3
end Go.Proofs.YtipigfgnpfhdbaaGreatDoor.F
namespace Go.Proofs.YtipigfgnpfhdbaaGreatDoor.F
open Go.RowKit U
set_option linter.unusedVariables false

set_option maxHeartbeats 1000000 in
theorem equal_any (A B : Option Addr) (n m c d : Nat) (xs ys : List Int) (B1 B2 : Nat) (w : World) (hA : Rd w B1 .i32 A xs) (hB : Rd w B2 .i32 B ys) (hn : xs.length = n) (hm : ys.length = m) (hn' : n ≤ 1099511627776) :
    Calls Tryz.prog 65 #[.slice A n c, .slice B m d] w (Quiet w (decide (xs = ys))) := by
  have HN := Lib.hid hn
  have HM := Lib.hid hm
  have HA := Lib.hid hA
  have HB := Lib.hid hB
  clear hn hm hA hB
  by_cases hnm : n = m
  · subst hnm
    have hq : ((n : Int) != (n : Int)) = false := by simp
    go_enter Tryz.func65, Tryz.ntmps65
    go_wp2
    go_loopw [13] (fun i wr => SameRel w xs ys i wr) (fun i _ => n - (intOf i).toNat)
    case atStart => exact ⟨0, 0, rfl, Nat.zero_le _, rfl, by simp⟩
    case round =>
      obtain ⟨k, q, rfl, hk, rfl, heq⟩ := hrel
      rw [HN.out] at hk
      have HE := Lib.hid heq
      clear heq
      by_cases hlt : k < n
      · obtain ⟨x, hx⟩ : ∃ x, xs[k]? = some x := ⟨xs[k]'(by rw [HN.out]; exact hlt), by simp⟩
        obtain ⟨y, hy⟩ : ∃ y, ys[k]? = some y := ⟨ys[k]'(by rw [HM.out]; exact hlt), by simp⟩
        obtain ⟨g1, o1, rfl, hg1, hc1⟩ := HA.out k x hx
        obtain ⟨g2, o2, rfl, hg2, hc2⟩ := HB.out k y hy
        have HX := Lib.hid hx
        have HY := Lib.hid hy
        clear hx hy
        have hi1 : (0 : Int) ≤ (k : Int) := by omega
        have hi2 : (k : Int) < (n : Int) := by omega
        by_cases hxy : x = y
        · subst hxy
          have hne : (x != x) = false := by simp
          go_wp2
          go_quiet (fail)
          go_wp2
          go_roundw
          case rel => exact ⟨k + 1, _, by go_num, by rw [HN.out]; omega, rfl, take_more HE.out HX.out HY.out⟩
          case measure => simp [intOf]; omega
        · have hne : (x != y) = true := by simpa using hxy
          have hd : decide (xs = ys) = false := by
            simp only [decide_eq_false_iff_not]
            intro e
            have h1 := HX.out
            rw [e, HY.out] at h1
            exact hxy (by simpa using h1.symm)
          have HD := Lib.hid hd
          clear hd
          go_wp2
          go_quiet (fail)
          go_wp2
          go_ret
          exact ⟨by rw [HD.out]; rfl, _, World.drewN_drewN _ _ _⟩
      · have hd : decide (xs = ys) = true := by
          simp only [decide_eq_true_eq]
          have h1 := HE.out
          obtain rfl : k = n := by omega
          rwa [List.take_of_length_le (by rw [HN.out]; omega), List.take_of_length_le (by rw [HM.out]; omega)] at h1
        have HD := Lib.hid hd
        clear hd
        go_wp2
        go_ret
        exact ⟨by rw [HD.out]; rfl, _, rfl⟩
  · have hq : ((n : Int) != (m : Int)) = true := by simp; omega
    have hd : decide (xs = ys) = false := by
      simp only [decide_eq_false_iff_not]
      intro e
      have h1 := HN.out
      rw [e, HM.out] at h1
      exact hnm h1.symm
    have HD := Lib.hid hd
    clear hd
    go_enter Tryz.func65, Tryz.ntmps65
    go_wp2
    go_ret
    exact ⟨by rw [HD.out]; rfl, 0, rfl⟩


def ThreeIs (w : World) (a b n : Int) (e : Ending) (w' : World) : Prop := e = .returned (.tuple #[.int .i32 a, .int .i32 b, .int .i64 n]) ∧ w = w'
theorem twelve_pos {t : Int × Int × Int × Int} (h : t ∈ twelve) : 0 < t.2.2.2 := by
  simp only [twelve, List.mem_cons, List.not_mem_nil, or_false] at h
  rcases h with rfl | rfl | rfl | rfl | rfl | rfl | rfl | rfl | rfl | rfl | rfl | rfl <;> decide
end Go.Proofs.YtipigfgnpfhdbaaGreatDoor.F
namespace Go.Proofs.YtipigfgnpfhdbaaGreatDoor.F
open Go.RowKit U
set_option linter.unusedVariables false

def NfdRel (w : World) (B : Nat) (l : List Int) (n : Nat) (i : Value) (w' : World) : Prop :=
  ∃ k : Nat, i = .int .i64 k ∧ k ≤ n ∧ Hid ((∃ v, Spt B w' v (apL (l.take k))) ∧ Below B w w')

set_option maxHeartbeats 2000000 in
theorem nfd_is (A : Option Addr) (n c C : Nat) (l : List Int) (w : World) (hr : Rd w C .i32 A l) (hl : l.length = n) (hn : n ≤ 1099511627776) (hn2 : (apL l).length ≤ 1099511627776) (hS : Sp w) :
    Calls Tryz.prog 41 #[.slice A n c] w (OrdPost w (apL l)) := by
  have HR := Lib.hid hr
  have HL := Lib.hid hl
  have HS := Lib.hid hS
  have HN2 := Lib.hid hn2
  obtain ⟨B, hB⟩ : ∃ B, w.heap.size = B := ⟨_, rfl⟩
  have HB := Lib.hid hB
  have H0 : Hid ((∃ v, Spt B (w.alloc (.cells #[.slice none 0 0] 93)) v (apL (l.take 0))) ∧ Below B w (w.alloc (.cells #[.slice none 0 0] 93))) := Lib.hid (by
    subst hB
    exact ⟨⟨_, heap_alloc_new w _, Own.nil _ _ _ _⟩, (Bel.refl w).alloc _⟩)
  clear hr hl hS hn2
  go_enter Tryz.func41, Tryz.ntmps41
  go_wp2
  clear hB
  go_loopw [8] (fun i wr => NfdRel w B l n i wr) (fun i _ => n - (intOf i).toNat)
  case atStart => exact ⟨0, rfl, Nat.zero_le _, H0⟩
  case round =>
    clear H0
    obtain ⟨k, rfl, hk, HK⟩ := hrel
    by_cases hlt : k < n
    · obtain ⟨p, hp⟩ : ∃ p, l[k]? = some p := ⟨l[k]'(by rw [HL.out]; exact hlt), by simp⟩
      obtain ⟨⟨v, hs⟩, hbw⟩ := HK.out
      have hbw' : Bel w wr := by unfold Bel; rw [HB.out]; exact hbw
      obtain ⟨g, off, rfl, _, hc⟩ := (HR.out.bel hbw') k p hp
      have hap : apL (l.take (k + 1)) = apL (l.take k) ++ ap p := by rw [List.take_add_one, hp, Option.toList_some, apL_append, apL_cons, apL_nil, List.append_nil]
      have hbnd : (apL (l.take k)).length + (ap p).length ≤ 1099511627776 := by
        have h1 : apL l = apL (l.take (k + 1)) ++ apL (l.drop (k + 1)) := by rw [← apL_append, List.take_append_drop]
        have h2 := congrArg List.length h1
        have h3 := HN2.out
        rw [hap] at h2
        simp only [List.length_append] at h2 ⊢
        omega
      have HC := Lib.hid (add_is B p _ v wr hs hbnd)
      have HV : Hid (∀ w' v', Spt B w' v' (apL (l.take k) ++ ap p) → Fr B wr v w' v' → NfdRel w B l n (.int .i64 ((k : Int) + 1)) w') := Lib.hid fun w' v' h1 h2 =>
        ⟨k + 1, by go_num, by omega, Lib.hid ⟨⟨v', by rw [hap]; exact h1⟩, hbw.trans (h2.below hs)⟩⟩
      have q1 : (0 : Int) ≤ (k : Int) := by omega
      have q2 : (k : Int) < (n : Int) := by omega
      clear hp hs hbw hbw' hap hbnd HK
      go_wp2_with fail
      with_reducible refine HC.out.mono ?_
      rintro e w2 ⟨rfl, v', h1, h2⟩
      have HW := Lib.hid (HV.out w2 v' h1 h2)
      clear h1 h2 HC HV
      go_wp2
      go_roundw
      case rel => exact HW.out
      case measure => simp [intOf]; omega
    · obtain ⟨⟨v, hs⟩, hbw⟩ := HK.out
      rw [List.take_of_length_le (by rw [HL.out]; omega)] at hs
      have hbw' : Bel w wr := by unfold Bel; rw [HB.out]; exact hbw
      obtain ⟨m, hm⟩ : ∃ m, (apL l).length = m := ⟨_, rfl⟩
      obtain ⟨A', cap, rfl, _, hrd, hnil⟩ := hs.2.rdn hm
      have c1 := hs.cell
      have HC := Lib.hid (order_is A' m cap _ (apL l) wr hrd hm hnil (by have := HN2.out; omega) (HS.out.by hbw'))
      have HW := Lib.hid hbw'
      have q2 : ¬ (k : Int) < (n : Int) := by omega
      clear hs hbw hbw' hm hrd hnil HK
      go_wp2_with fail
      with_reducible refine HC.out.mono ?_
      rintro e w2 ⟨v2, l2, rfl, h1, h2, h3⟩
      have HF : Hid (Ord (apL l) l2 ∧ U.Own w2 w.heap.size 21 .i32 v2 l2 ∧ Bel w w2) := Lib.hid ⟨h1, h2.less HW.out.size, HW.out.trans h3⟩
      clear h1 h2 h3 HC
      go_wp2
      go_ret
      exact ⟨_, l2, rfl, HF.out.1, HF.out.2.1, HF.out.2.2⟩

/-- The list is known. -/
def OwnIs (w : World) (L : List Int) (n : Nat) (e : Ending) (w' : World) : Prop := ∃ A cap, e = .returned (.slice A n cap) ∧ n ≤ cap ∧ (A = none → cap = 0) ∧ Hid (Rd w' w'.heap.size .i32 A L) ∧ Hid (U.Own w' w.heap.size 21 .i32 (.slice A n cap) L) ∧ Bel w w'
theorem OrdPost.is {w w' : World} {l L : List Int} {n : Nat} {e : Ending} (h : OrdPost w l e w') (hO : Ord l L) (hn : L.length = n) : OwnIs w L n e w' := by
  obtain ⟨v, l', rfl, h1, h2, h3⟩ := h
  obtain rfl := ord_one h1 hO
  obtain ⟨A, cap, rfl, k1, k2, k3⟩ := h2.rdn hn
  exact ⟨A, cap, rfl, k1, k3, Lib.hid k2, Lib.hid h2, h3⟩
theorem nfd_as (A : Option Addr) (n c C : Nat) (l L : List Int) (m : Nat) (w : World) (hr : Rd w C .i32 A l) (hl : l.length = n) (hn : n ≤ 10000000000) (hS : Sp w) (hO : Ord (apL l) L) (hm : L.length = m) :
    Calls Tryz.prog 41 #[.slice A n c] w (OwnIs w L m) :=
  (nfd_is A n c C l w hr hl (by omega) (by have := apL_max l; omega) hS).mono fun e w' h => h.is hO hm

theorem ends_101 : ends.contains 101 = true := by kernel_rfl
theorem secs_769 : secs.contains 769 = true := by kernel_rfl
theorem ap_233 : apL [233] = [101, 769] := by
  have h1 : pts 233 = [101, 769] := by
    rcases spl_pts spl_233 with ⟨h, _⟩ | ⟨_, h⟩ | ⟨h, _⟩
    · omega
    · exact h
    · omega
  have h2 : pts 101 = [] := sec_free (List.mem_append_right _ (by simpa using ends_101))
  have h3 : pts 769 = [] := sec_free (List.mem_append_left _ (by simpa using secs_769))
  rw [apL_cons, apL_nil, List.append_nil, ap_split (by rw [h1]; simp), h1]
  simp [ap_free h2, ap_free h3]
theorem ord_233 : Ord (apL [233]) [101, 769] := by
  rw [ap_233]
  refine ord_self fun i a b ha hb hp => ?_
  have hi := (List.getElem?_eq_some_iff.1 hb).1
  simp at hi
  obtain rfl : i = 0 := by omega
  simp at ha hb
  subst ha hb
  have : cls 101 = 0 := by kernel_rfl
  omega

end Go.Proofs.YtipigfgnpfhdbaaGreatDoor.F
