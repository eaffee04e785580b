/- What slices.symMergeCmpFunc makes of a sorted run and one mark behind it. -/
import Derived.Test.YtfgpgmfajjakpaaDoorIns
import Derived.Test.YtfgpgmfajjakpaaDoorSymM
namespace Go.Proofs.YtfgpgmfajjakpaaDoor.U
open Go.RowKit
set_option linter.unusedVariables false

def S2Rel (base : Nat) (w0 : World) (g off a m : Nat) (D : List Int) (i j : Value) (w : World) : Prop :=
  ∃ I J : Nat, i = .int .i64 I ∧ j = .int .i64 J ∧ a ≤ I ∧ I ≤ J ∧ J ≤ m ∧ Hid ((∀ t, a ≤ t → t < I → kAt D t ≤ kAt D m) ∧ ∀ t, J ≤ t → t < m → kAt D m < kAt D t) ∧ Hid (In base w0 g off D w)
def S2Sh (base : Nat) (w0 : World) (g off I m : Nat) (p q : List Int) (v : Int) (x1 x2 : List Int) (k : Value) (w : World) : Prop :=
  ∃ K : Nat, k = .int .i64 K ∧ I ≤ K ∧ K ≤ m ∧ Hid (∃ A B, x2 = A ++ B ∧ I + A.length = K ∧ In base w0 g off (p ++ ((x1 ++ (A ++ v :: B)) ++ q)) w)

set_option maxRecDepth 1000000 in
set_option maxHeartbeats 8000000 in
theorem sym2_is (base g off cap a m b N : Nat) (p x q : List Int) (v : Int) (w0 w : World) (hI : In base w0 g off (p ++ (x ++ ([v] ++ q))) w) (hL : Lay p x [v] a m b) (hM : Mk (x ++ [v])) (hx : Sd x) (ham : a + 1 < m)
    (hN : (p ++ (x ++ ([v] ++ q))).length = N) (hsz : N ≤ 1099511627776) :
    Calls Tryd.prog 53 #[.slice (some ⟨g, off, none⟩) N cap, .int .i64 a, .int .i64 m, .int .i64 b, .func (.func 27) #[] #[]] w (Sorted base w0 g off p (x ++ [v]) q) := by
  have eg := enters27
  have hmix := mixed
  have hmb : m + 1 = b := by have := hL.2.2; simpa using this
  have hbN : b ≤ N := by
    have h1 := hL.1
    have h2 := hL.2.1
    simp at hN
    omega
  obtain ⟨D, hD⟩ : ∃ D, D = p ++ (x ++ ([v] ++ q)) := ⟨_, rfl⟩
  have ga : D[m]? = some v := by
    rw [hD, ← List.append_assoc]
    exact at_mid (p ++ x) v q (by have h1 := hL.1; have h2 := hL.2.1; rw [List.length_append]; omega)
  have HGA := Lib.hid ga
  have HKA := Lib.hid (kAt_is ga)
  have HAT : Hid (∀ i, a ≤ i → i < m → ∃ z, D[i]? = some z) := Lib.hid fun i h0 h1 => by
    obtain ⟨z, _, hz⟩ := hL.atx (q := q) h0 h1
    exact ⟨z, by rw [hD]; exact hz⟩
  have HKX : Hid (∀ i j, a ≤ i → i ≤ j → j < m → kAt D i ≤ kAt D j) := Lib.hid fun i j h0 h1 h2 => by rw [hD]; exact hL.kx hx h0 h1 h2
  have HI := Lib.hid (show In base w0 g off D w by rw [hD]; exact hI)
  have HD := Lib.hid hD
  have HL := Lib.hid hL
  have HM := Lib.hid hM
  have HS := Lib.hid hx
  have z0 : ((m : Int) - (a : Int) == 1) = false := by simp; omega
  have z1 : (b : Int) - (m : Int) = 1 := by omega
  clear hI hL hM hx hN hD ga
  go_enter Tryd.func53, Tryd.ntmps53
  go_wp2
  go_loopw [14, 15] (fun i j wr => S2Rel base w0 g off a m D i j wr) (fun i j _ => (intOf j).toNat - (intOf i).toNat)
  case atStart => exact ⟨a, m, rfl, rfl, Nat.le_refl _, by omega, Nat.le_refl _, Lib.hid ⟨fun t h1 h2 => by omega, fun t h1 h2 => by omega⟩, HI⟩
  case round =>
    clear HI
    obtain ⟨I, J, rfl, rfl, hmI, hIJ, hJb, HK, HIN⟩ := hrel
    by_cases hlt : I < J
    · obtain ⟨h, hh⟩ : ∃ h, h = (I + J) / 2 := ⟨_, rfl⟩
      have h1 : I ≤ h := by omega
      have h2 : h < J := by omega
      have em : ((I : Int) + (J : Int)) / 2 = (h : Int) := by omega
      obtain ⟨z, hz⟩ := HAT.out h (by omega) (by omega)
      have HZ := Lib.hid (kAt_is hz)
      have la := HIN.out.cells hz
      have lb := HIN.out.cells HGA.out
      obtain ⟨c, hc⟩ : ∃ c, cmpI (cls v) (cls z) = c := ⟨_, rfl⟩
      have hcc := HIN.out.comp v z c hc
      have ba : (h : Int) < (N : Int) := by omega
      have bc : (m : Int) < (N : Int) := by omega
      have pa : (0 : Int) ≤ (h : Int) := by omega
      have pc : (0 : Int) ≤ (m : Int) := by omega
      clear hz hh
      by_cases hzu : cls v < cls z
      · have hd : c < 0 := by rw [← hc]; exact cmpI_neg.2 hzu
        have hdd : decide (c < 0) = true := decide_eq_true hd
        have HN1 : Hid ((∀ t, a ≤ t → t < I → kAt D t ≤ kAt D m) ∧ ∀ t, h ≤ t → t < m → kAt D m < kAt D t) := Lib.hid ⟨HK.out.1, fun t t0 t1 => by
          have k1 := HKX.out h t (by omega) t0 t1
          have k2 := HZ.out
          have k3 := HKA.out
          omega⟩
        clear hzu hc HK
        go_wp2_with fail
        go_quiet_grown (first | (go_at_fn 27; refine Calls.grown_of (hcc _ _)))
        have S2 : Hid (In base w0 g off D (Sort.grow (wr.drewN nq) osq)) := Lib.hid (HIN.out.gr ⟨nq, osq, rfl⟩)
        clear la lb hcc HIN
        generalize Sort.grow (wr.drewN nq) osq = w2 at S2 ⊢
        go_wp2
        go_roundw
        case rel => exact ⟨I, h, rfl, by go_num, hmI, by omega, by omega, HN1, S2⟩
        case measure => simp [intOf]; omega
      · have hd : ¬ c < 0 := by rw [← hc]; exact fun h => hzu (cmpI_neg.1 h)
        have hdd : decide (c < 0) = false := decide_eq_false hd
        have HN1 : Hid ((∀ t, a ≤ t → t < h + 1 → kAt D t ≤ kAt D m) ∧ ∀ t, J ≤ t → t < m → kAt D m < kAt D t) := Lib.hid ⟨fun t t0 t1 => by
          have k1 := HKX.out t h t0 (by omega) (by omega)
          have k2 := HZ.out
          have k3 := HKA.out
          omega, HK.out.2⟩
        clear hzu hc HK
        go_wp2_with fail
        go_quiet_grown (first | (go_at_fn 27; refine Calls.grown_of (hcc _ _)))
        have S2 : Hid (In base w0 g off D (Sort.grow (wr.drewN nq) osq)) := Lib.hid (HIN.out.gr ⟨nq, osq, rfl⟩)
        clear la lb hcc HIN
        generalize Sort.grow (wr.drewN nq) osq = w2 at S2 ⊢
        go_wp2
        go_roundw
        case rel => exact ⟨h + 1, J, by go_num, rfl, by omega, by omega, hJb, HN1, S2⟩
        case measure => simp [intOf]; omega
    · obtain rfl : I = J := by omega
      obtain ⟨x1, x2, ex, l1⟩ := cut_two (X := x) (j := I - a) (by have := HL.out.2.1; omega)
      have HQ : Hid (St (x ++ [v]) (x1 ++ v :: x2) ∧ Sd (x1 ++ v :: x2)) := Lib.hid (by
        rw [ex]
        refine merge_last (by have := HM.out; rw [ex] at this; exact this) (by rw [← ex]; exact HS.out) (fun z hz => ?_) (fun z hz => ?_)
        · obtain ⟨t, t0, t1, t2⟩ := (HL.out.memx (q := q) ex).1 hz
          have := HK.out.1 t t0 (by omega)
          rw [HKA.out, HD.out, t2] at this
          exact this
        · obtain ⟨t, t0, t1, t2⟩ := (HL.out.memx (q := q) ex).2 hz
          have := HK.out.2 t (by omega) t1
          rw [HKA.out, HD.out, t2] at this
          exact this)
      have HST : Hid (In base w0 g off (p ++ ((x1 ++ (x2 ++ v :: [])) ++ q)) wr) := Lib.hid (by
        have := HIN.out
        rw [HD.out, ex] at this
        simpa using this)
      have hX2 : I + x2.length = m := by
        have := HL.out.2.1
        rw [ex, List.length_append] at this
        omega
      have HX2 := Lib.hid hX2
      have hX1 : p.length + x1.length = I := by have := HL.out.1; omega
      have HX1 := Lib.hid hX1
      clear HK HIN ex l1 HKX HAT HGA HKA HS HM HD HL hX2 hX1
      generalize wr = wo at HST ⊢
      clear wr
      have hnlt : ¬ (I : Int) < (I : Int) := by omega
      go_wp2
      go_loopw [17] (fun k wr => S2Sh base w0 g off I m p q v x1 x2 k wr) (fun k _ => (intOf k).toNat)
      case atStart => exact ⟨m, rfl, by omega, Nat.le_refl _, Lib.hid ⟨x2, [], by simp, HX2.out, HST.out⟩⟩
      case round =>
        clear HST
        obtain ⟨K, rfl, haK, hKn, HR⟩ := hrel
        by_cases hlt2 : I < K
        · obtain ⟨K1, hK1⟩ : ∃ K1, K1 + 1 = K := ⟨K - 1, by omega⟩
          obtain ⟨A, u, B, e1, e2, hin⟩ : ∃ A u B, x2 = A ++ u :: B ∧ I + A.length = K1 ∧ In base w0 g off ((p ++ (x1 ++ A)) ++ u :: ([] ++ v :: (B ++ q))) wr := by
            obtain ⟨A, B, e1, e2, hin⟩ := HR.out
            rcases List.eq_nil_or_concat A with rfl | ⟨A0, u, rfl⟩
            · simp at e2; omega
            · rw [List.concat_eq_append] at e1 e2 hin
              exact ⟨A0, u, B, by rw [e1]; simp, by simp at e2; omega, by simpa using hin⟩
          have hpp := HX1.out
          have hA : (p ++ (x1 ++ A)).length = K1 := by simp only [List.length_append]; omega
          have hJ : K1 + 1 + ([] : List Int).length = K := by simpa using hK1
          have g1 := at_mid (p ++ (x1 ++ A)) u ([] ++ v :: (B ++ q)) hA
          have g2 := at_mid2 (p ++ (x1 ++ A)) u [] v (B ++ q) hA hJ
          have hne : K ≠ K1 := by omega
          have c1 := hin.cell g2
          have c2 := hin.cell g1
          have f1 := hin.free g2
          have f2 := hin.free g1
          have c3 := hin.c2 g1 hne (.int .i32 u)
          have S3 : Hid (In base w0 g off ((p ++ (x1 ++ A)) ++ v :: ([] ++ u :: (B ++ q))) ((wr.setCell ⟨g, off + K, none⟩ (.int .i32 u)).setCell ⟨g, off + K1, none⟩ (.int .i32 v)).drew) := Lib.hid (hin.swap g2 g1 hne fun k => by
            rw [swap_mid (p ++ (x1 ++ A)) u v [] (B ++ q) hA hJ k]
            by_cases e1 : k = K1
            · rw [if_pos e1, if_neg (by omega), if_pos e1]
            · rw [if_neg e1]
              by_cases e2 : k = K
              · rw [if_pos e2, if_pos e2]
              · rw [if_neg e2, if_neg e2, if_neg e1])
          have HV : Hid (∀ w', In base w0 g off ((p ++ (x1 ++ A)) ++ v :: ([] ++ u :: (B ++ q))) w' → S2Sh base w0 g off I m p q v x1 x2 (.int .i64 (K1 : Int)) w') := Lib.hid fun w' hi =>
            ⟨K1, rfl, by omega, by omega, Lib.hid ⟨A, u :: B, e1, e2, by simpa using hi⟩⟩
          have zK : (K : Int) = (K1 : Int) + 1 := by omega
          have ea : ((K1 : Int) + 1).toNat = K := by omega
          have pa : (0 : Int) ≤ (K1 : Int) + 1 := by omega
          have ba : (K1 : Int) + 1 < (N : Int) := by omega
          have ra : IntKind.i64.wrap ((K1 : Int) + 1) = (K1 : Int) + 1 := by rw [IntKind.wrap_i64]; omega
          have ec : ((K1 : Int)).toNat = K1 := by omega
          have pc : (0 : Int) ≤ (K1 : Int) := by omega
          have bc : (K1 : Int) < (N : Int) := by omega
          have rc : IntKind.i64.wrap ((K1 : Int)) = (K1 : Int) := by rw [IntKind.wrap_i64]; omega
          have hkz : (I : Int) < (K1 : Int) + 1 := by omega
          clear g1 g2 hA hJ e1 e2 hin hpp HR hne
          rw [zK]
          clear zK
          go_wp2_with fail
          go_region
          clear c1 c2 c3 f1 f2
          generalize ((wr.setCell ⟨g, off + K, none⟩ (.int .i32 u)).setCell ⟨g, off + K1, none⟩ (.int .i32 v)).drew = w3 at S3 ⊢
          clear ea ec
          go_wp2
          go_roundw
          case rel => exact HV.out _ S3.out
          case measure => simp [intOf]; try omega
        · obtain rfl : K = I := by omega
          have hF : Hid (∃ s', St (x ++ [v]) s' ∧ Sd s' ∧ In base w0 g off (p ++ (s' ++ q)) wr) := Lib.hid (by
            obtain ⟨A, B, e1, e2, hin⟩ := HR.out
            obtain rfl : A = [] := List.eq_nil_of_length_eq_zero (by omega)
            rw [List.nil_append] at e1
            subst e1
            exact ⟨x1 ++ v :: x2, HQ.out.1, HQ.out.2, by simpa using hin⟩)
          have hkz : ¬ (K : Int) < (K : Int) := by omega
          clear HR
          go_wp2
          (try simp only [Exit.inBlock, Exit.then])
          refine bodyPost_ret (results_none rfl _ _ _) rfl ?_
          exact ⟨rfl, hF.out⟩
end Go.Proofs.YtfgpgmfajjakpaaDoor.U
