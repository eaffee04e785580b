/- What slices.symMergeCmpFunc makes of one mark and a sorted run behind it. -/
import Derived.Test.YtfgpgmfajjakpaaDoorIns
import Derived.Test.YtfgpgmfajjakpaaDoorSymM
namespace Go.Proofs.YtfgpgmfajjakpaaDoor.U
open Go.RowKit
set_option linter.unusedVariables false

def S1Rel (base : Nat) (w0 : World) (g off a m b : Nat) (D : List Int) (i j : Value) (w : World) : Prop :=
  ∃ I J : Nat, i = .int .i64 I ∧ j = .int .i64 J ∧ m ≤ I ∧ I ≤ J ∧ J ≤ b ∧ Hid ((∀ t, m ≤ t → t < I → kAt D t < kAt D a) ∧ ∀ t, J ≤ t → t < b → kAt D a ≤ kAt D t) ∧ Hid (In base w0 g off D w)
def S1Sh (base : Nat) (w0 : World) (g off a : Nat) (p q : List Int) (u : Int) (y1 y2 : List Int) (k : Value) (w : World) : Prop :=
  ∃ K : Nat, k = .int .i64 K ∧ a ≤ K ∧ K ≤ a + y1.length ∧ Hid (∃ A B, y1 = A ++ B ∧ a + A.length = K ∧ In base w0 g off (p ++ ((A ++ u :: (B ++ y2)) ++ q)) w)

set_option maxRecDepth 1000000 in
set_option maxHeartbeats 8000000 in
theorem sym1_is (base g off cap a m b N : Nat) (p y q : List Int) (u : Int) (w0 w : World) (hI : In base w0 g off (p ++ ([u] ++ (y ++ q))) w) (hL : Lay p [u] y a m b) (hM : Mk ([u] ++ y)) (hy : Sd y) (hmb : m < b)
    (hN : (p ++ ([u] ++ (y ++ q))).length = N) (hsz : N ≤ 1099511627776) :
    Calls Tryd.prog 53 #[.slice (some ⟨g, off, none⟩) N cap, .int .i64 a, .int .i64 m, .int .i64 b, .func (.func 27) #[] #[]] w (Sorted base w0 g off p ([u] ++ y) q) := by
  have eg := enters27
  have hmix := mixed
  have ham : a + 1 = m := by have := hL.2.1; simpa using this
  have hbN : b ≤ N := by
    have h1 := hL.1
    have h2 := hL.2.2
    simp at hN
    omega
  obtain ⟨D, hD⟩ : ∃ D, D = p ++ ([u] ++ (y ++ q)) := ⟨_, rfl⟩
  have ga : D[a]? = some u := by rw [hD]; exact at_mid p u (y ++ q) hL.1
  have HGA := Lib.hid ga
  have HKA := Lib.hid (kAt_is ga)
  have HAT : Hid (∀ i, m ≤ i → i < b → ∃ z, D[i]? = some z) := Lib.hid fun i h0 h1 => by
    obtain ⟨z, _, hz⟩ := hL.aty (q := q) h0 h1
    exact ⟨z, by rw [hD]; exact hz⟩
  have HKY : Hid (∀ i j, m ≤ i → i ≤ j → j < b → kAt D i ≤ kAt D j) := Lib.hid fun i j h0 h1 h2 => by rw [hD]; exact hL.ky hy h0 h1 h2
  have HI := Lib.hid (show In base w0 g off D w by rw [hD]; exact hI)
  have HD := Lib.hid hD
  have HL := Lib.hid hL
  have HM := Lib.hid hM
  have HS := Lib.hid hy
  have z1 : (m : Int) - (a : Int) = 1 := by omega
  clear hI hL hM hy hN hD ga
  go_enter Tryd.func53, Tryd.ntmps53
  go_wp2
  go_loopw [10, 11] (fun i j wr => S1Rel base w0 g off a m b D i j wr) (fun i j _ => (intOf j).toNat - (intOf i).toNat)
  case atStart => exact ⟨m, b, rfl, rfl, Nat.le_refl _, by omega, Nat.le_refl _, Lib.hid ⟨fun t h1 h2 => by omega, fun t h1 h2 => by omega⟩, HI⟩
  case round =>
    clear HI
    obtain ⟨I, J, rfl, rfl, hmI, hIJ, hJb, HK, HIN⟩ := hrel
    by_cases hlt : I < J
    · obtain ⟨h, hh⟩ : ∃ h, h = (I + J) / 2 := ⟨_, rfl⟩
      have h1 : I ≤ h := by omega
      have h2 : h < J := by omega
      have em : ((I : Int) + (J : Int)) / 2 = (h : Int) := by omega
      obtain ⟨z, hz⟩ := HAT.out h (by omega) (by omega)
      have HZ := Lib.hid (kAt_is hz)
      have la := HIN.out.cells hz
      have lb := HIN.out.cells HGA.out
      obtain ⟨c, hc⟩ : ∃ c, cmpI (cls z) (cls u) = c := ⟨_, rfl⟩
      have hcc := HIN.out.comp z u c hc
      have ba : (h : Int) < (N : Int) := by omega
      have bc : (a : Int) < (N : Int) := by omega
      have pa : (0 : Int) ≤ (h : Int) := by omega
      have pc : (0 : Int) ≤ (a : Int) := by omega
      clear hz hh
      by_cases hzu : cls z < cls u
      · have hd : c < 0 := by rw [← hc]; exact cmpI_neg.2 hzu
        have hdd : decide (c < 0) = true := decide_eq_true hd
        have HN1 : Hid ((∀ t, m ≤ t → t < h + 1 → kAt D t < kAt D a) ∧ ∀ t, J ≤ t → t < b → kAt D a ≤ kAt D t) := Lib.hid ⟨fun t t0 t1 => by
          have k1 := HKY.out t h t0 (by omega) (by omega)
          have k2 := HZ.out
          have k3 := HKA.out
          omega, HK.out.2⟩
        clear hzu hc HK
        go_wp2_with fail
        go_quiet_grown (first | (go_at_fn 27; refine Calls.grown_of (hcc _ _)))
        have S2 : Hid (In base w0 g off D (Sort.grow (wr.drewN nq) osq)) := Lib.hid (HIN.out.gr ⟨nq, osq, rfl⟩)
        clear la lb hcc HIN
        generalize Sort.grow (wr.drewN nq) osq = w2 at S2 ⊢
        go_wp2
        go_roundw
        case rel => exact ⟨h + 1, J, by go_num, rfl, by omega, by omega, hJb, HN1, S2⟩
        case measure => simp [intOf]; omega
      · have hd : ¬ c < 0 := by rw [← hc]; exact fun h => hzu (cmpI_neg.1 h)
        have hdd : decide (c < 0) = false := decide_eq_false hd
        have HN1 : Hid ((∀ t, m ≤ t → t < I → kAt D t < kAt D a) ∧ ∀ t, h ≤ t → t < b → kAt D a ≤ kAt D t) := Lib.hid ⟨HK.out.1, fun t t0 t1 => by
          have k1 := HKY.out h t (by omega) t0 t1
          have k2 := HZ.out
          have k3 := HKA.out
          omega⟩
        clear hzu hc HK
        go_wp2_with fail
        go_quiet_grown (first | (go_at_fn 27; refine Calls.grown_of (hcc _ _)))
        have S2 : Hid (In base w0 g off D (Sort.grow (wr.drewN nq) osq)) := Lib.hid (HIN.out.gr ⟨nq, osq, rfl⟩)
        clear la lb hcc HIN
        generalize Sort.grow (wr.drewN nq) osq = w2 at S2 ⊢
        go_wp2
        go_roundw
        case rel => exact ⟨I, h, rfl, by go_num, hmI, by omega, by omega, HN1, S2⟩
        case measure => simp [intOf]; omega
    · obtain rfl : I = J := by omega
      obtain ⟨y1, y2, ey, l1⟩ := cut_two (X := y) (j := I - m) (by have := HL.out.2.2; omega)
      have HQ : Hid (St ([u] ++ y) (y1 ++ u :: y2) ∧ Sd (y1 ++ u :: y2)) := Lib.hid (by
        rw [ey]
        refine merge_one (by have := HM.out; rw [ey] at this; exact this) (by rw [← ey]; exact HS.out) (fun z hz => ?_) (fun z hz => ?_)
        · obtain ⟨t, t0, t1, t2⟩ := (HL.out.memy (q := q) ey).1 hz
          have := HK.out.1 t t0 (by omega)
          rw [HKA.out, HD.out, t2] at this
          exact this
        · obtain ⟨t, t0, t1, t2⟩ := (HL.out.memy (q := q) ey).2 hz
          have := HK.out.2 t (by omega) t1
          rw [HKA.out, HD.out, t2] at this
          exact this)
      have HST : Hid (In base w0 g off (p ++ (([] ++ u :: (y1 ++ y2)) ++ q)) wr) := Lib.hid (by
        have := HIN.out
        rw [HD.out, ey] at this
        simpa using this)
      obtain ⟨n1, hn1⟩ : ∃ n1, y1.length = n1 := ⟨_, rfl⟩
      have z2 : (I : Int) - 1 = (a : Int) + (n1 : Int) := by omega
      have hI1 : I = a + n1 + 1 := by omega
      have HLEN := Lib.hid hn1
      have hpl := HL.out.1
      have HPL := Lib.hid hpl
      clear HK HIN ey l1 HKY HAT HGA HKA HS HM HD HL hn1 hpl
      generalize wr = wo at HST ⊢
      clear wr
      have hnlt : ¬ (I : Int) < (I : Int) := by omega
      go_wp2
      go_loopw [13] (fun k wr => S1Sh base w0 g off a p q u y1 y2 k wr) (fun k _ => a + n1 - (intOf k).toNat)
      case atStart => exact ⟨a, rfl, Nat.le_refl _, by omega, Lib.hid ⟨[], y1, rfl, rfl, HST.out⟩⟩
      case round =>
        clear HST
        obtain ⟨K, rfl, haK, hKn, HR⟩ := hrel
        rw [HLEN.out] at hKn
        by_cases hlt2 : K < a + n1
        · obtain ⟨A, v, B, e1, e2, hin⟩ : ∃ A v B, y1 = A ++ v :: B ∧ a + A.length = K ∧ In base w0 g off ((p ++ A) ++ u :: ([] ++ v :: ((B ++ y2) ++ q))) wr := by
            obtain ⟨A, B, e1, e2, hin⟩ := HR.out
            cases B with
            | nil =>
              have := HLEN.out
              rw [e1] at this
              simp at this
              omega
            | cons v B => exact ⟨A, v, B, e1, e2, by simpa using hin⟩
          have hpp := HPL.out
          have hA : (p ++ A).length = K := by rw [List.length_append]; omega
          obtain ⟨K1, hK1⟩ : ∃ K1, K + 1 = K1 := ⟨_, rfl⟩
          have hJ : K + 1 + ([] : List Int).length = K1 := by simpa using hK1
          have g1 := at_mid (p ++ A) u ([] ++ v :: ((B ++ y2) ++ q)) hA
          have g2 := at_mid2 (p ++ A) u [] v ((B ++ y2) ++ q) hA hJ
          have hne : K ≠ K1 := by omega
          have c1 := hin.cell g1
          have c2 := hin.cell g2
          have f1 := hin.free g1
          have f2 := hin.free g2
          have c3 := hin.c2 g2 hne (.int .i32 v)
          have S3 : Hid (In base w0 g off ((p ++ A) ++ v :: ([] ++ u :: ((B ++ y2) ++ q))) ((wr.setCell ⟨g, off + K, none⟩ (.int .i32 v)).setCell ⟨g, off + K1, none⟩ (.int .i32 u)).drew) := Lib.hid (hin.swap g1 g2 hne (swap_mid (p ++ A) u v [] ((B ++ y2) ++ q) hA hJ))
          have HV : Hid (∀ w', In base w0 g off ((p ++ A) ++ v :: ([] ++ u :: ((B ++ y2) ++ q))) w' → S1Sh base w0 g off a p q u y1 y2 (.int .i64 ((K : Int) + 1)) w') := Lib.hid fun w' hi =>
            ⟨K + 1, by go_num, by omega, by rw [HLEN.out]; omega, Lib.hid ⟨A ++ [v], B, by rw [e1]; simp, by simp; omega, by simpa using hi⟩⟩
          have ea : ((K : Int) + 1).toNat = K1 := by omega
          have pa : (0 : Int) ≤ (K : Int) + 1 := by omega
          have ba : (K : Int) + 1 < (N : Int) := by omega
          have ra : IntKind.i64.wrap ((K : Int) + 1) = (K : Int) + 1 := by rw [IntKind.wrap_i64]; omega
          have pc : (0 : Int) ≤ (K : Int) := by omega
          have bc : (K : Int) < (N : Int) := by omega
          have hkz : (K : Int) < (a : Int) + (n1 : Int) := by omega
          clear g1 g2 hA hJ e1 e2 hin hpp HR hne hK1
          go_wp2_with fail
          go_region
          clear c1 c2 c3 f1 f2
          generalize ((wr.setCell ⟨g, off + K, none⟩ (.int .i32 v)).setCell ⟨g, off + K1, none⟩ (.int .i32 u)).drew = w3 at S3 ⊢
          clear ea
          go_wp2
          go_roundw
          case rel => exact HV.out _ S3.out
          case measure => simp [intOf]; omega
        · obtain rfl : K = a + n1 := by omega
          have hF : Hid (∃ s', St ([u] ++ y) s' ∧ Sd s' ∧ In base w0 g off (p ++ (s' ++ q)) wr) := Lib.hid (by
            obtain ⟨A, B, e1, e2, hin⟩ := HR.out
            have h5 := HLEN.out
            rw [e1, List.length_append] at h5
            obtain rfl : B = [] := List.eq_nil_of_length_eq_zero (by omega)
            rw [List.append_nil] at e1
            subst e1
            exact ⟨y1 ++ u :: y2, HQ.out.1, HQ.out.2, by simpa using hin⟩)
          have hkz : ¬ ((a + n1 : Nat) : Int) < (a : Int) + (n1 : Int) := by omega
          clear HR
          go_wp2
          (try simp only [Exit.inBlock, Exit.then])
          refine bodyPost_ret (results_none rfl _ _ _) rfl ?_
          exact ⟨rfl, hF.out⟩
end Go.Proofs.YtfgpgmfajjakpaaDoor.U
