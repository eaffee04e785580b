/- HangulAll answers true at any number; nothing that was there is changed. -/
import Derived.Test.YtalabobiaahppaaWalkSplits
namespace Go.Proofs.Ytalabobiaahppaa.U
open Go.RowKit
set_option linter.unusedVariables false

set_option maxRecDepth 100000 in
set_option maxHeartbeats 4000000 in
theorem walk_all (n : Int) (w : World) (hn : 0 ≤ n ∧ n ≤ 65535) :
    Calls Try.prog 5 #[.int .u16 n] w fun e w' => e = .returned (.bool true) ∧ Bel w w' := by
  obtain ⟨hn0, hn1⟩ := hn
  obtain ⟨k, hk⟩ : ∃ k : Int, n % 11171 = k := ⟨_, rfl⟩
  have hk0 : 0 ≤ k := by omega
  have hk1 : k < 11171 := by omega
  have HK := Lib.hid hk
  clear hk
  have HY1 := Lib.hid (fun w => syl_is 44031 false w (by decide))
  have HY2 := Lib.hid (fun w => syl_is 55204 false w (by decide))
  have HY3 := Lib.hid (fun w => syl_is 55203 true w (by decide))
  obtain ⟨a, ha⟩ : ∃ a, k / 588 = a := ⟨_, rfl⟩
  obtain ⟨b, hb⟩ : ∃ b, k % 588 / 28 = b := ⟨_, rfl⟩
  obtain ⟨t, ht⟩ : ∃ t, k % 28 = t := ⟨_, rfl⟩
  obtain ⟨a', ha'⟩ : ∃ a, (k + 1) / 588 = a := ⟨_, rfl⟩
  obtain ⟨b', hb'⟩ : ∃ b, (k + 1) % 588 / 28 = b := ⟨_, rfl⟩
  obtain ⟨t', ht'⟩ : ∃ t, (k + 1) % 28 = t := ⟨_, rfl⟩
  have hN : Num k a b t := by rw [← ha, ← hb, ← ht]; exact num_ex (by omega) (by omega)
  have hN' : Num (k + 1) a' b' t' := by rw [← ha', ← hb', ← ht']; exact num_ex (by omega) (by omega)
  have hor : (t = 0 ∧ 0 < t') ∨ (0 < t ∧ t' = 0) ∨ (0 < t ∧ 0 < t') := by omega
  obtain ⟨l1, l2, l3, l4, l5, l6, l7⟩ := hN
  obtain ⟨m1, m2, m3, m4, m5, m6, m7⟩ := hN'
  rcases hor with ⟨rfl, q'⟩ | ⟨q, rfl⟩ | ⟨q, q'⟩
  · have HS1 := Lib.hid (fun w => split_two (44032 + k) (4352 + a) (4449 + b) w (by omega) (by omega) (by omega) (by omega) (by omega))
    have HS2 := Lib.hid (fun w => split_three (44032 + k + 1) (4352 + a') (4449 + b') (4519 + t') w (by omega) (by omega) (by omega) (by omega) (by omega) (by omega))
    clear ha hb ht ha' hb' ht'
    have HP := Lib.hid l7
    have HP' := Lib.hid m7
    clear l7 m7
    go_enter Try.func5, Try.ntmps5
    go_wp2_with fail
    rw [HK.out]
    with_reducible refine (HS1.out _).mono ?_
    rintro e w1 ⟨A1, cap1, rfl, hcap1, hrd1, hnil1, hb1⟩
    obtain ⟨g1, o1, rfl, _, _⟩ := hrd1.isSome (by simp)
    have HR1 := Lib.hid hrd1
    clear hrd1 hnil1
    go_wp2_with fail
    with_reducible refine (HS2.out _).mono ?_
    rintro e w2 ⟨A2, cap2, rfl, hcap2, hrd2, hnil2, hb2⟩
    obtain ⟨g2, o2, rfl, _, _⟩ := hrd2.isSome (by simp)
    have HR2 := Lib.hid hrd2
    clear hrd2 hnil2
    go_wp2_with fail
    with_reducible refine (answers_is _).mono ?_
    rintro e w3 ⟨rfl, hb3⟩
    have c0 : w3.cell? ⟨g1, o1, none⟩ = some (.int .i32 (4352 + a)) := ((HR1.out.bel hb2).bel hb3).at (i := 0) rfl
    have c1 : w3.cell? ⟨g1, o1 + 1, none⟩ = some (.int .i32 (4449 + b)) := ((HR1.out.bel hb2).bel hb3).at (i := 1) rfl
    have d0 : w3.cell? ⟨g2, o2, none⟩ = some (.int .i32 (4352 + a')) := (HR2.out.bel hb3).at (i := 0) rfl
    have d1 : w3.cell? ⟨g2, o2 + 1, none⟩ = some (.int .i32 (4449 + b')) := (HR2.out.bel hb3).at (i := 1) rfl
    have d2 : w3.cell? ⟨g2, o2 + 2, none⟩ = some (.int .i32 (4519 + t')) := (HR2.out.bel hb3).at (i := 2) rfl
    go_wp2_with fail
    with_reducible refine (HY1.out _).mono ?_
    rintro e w4 ⟨rfl, rfl⟩
    go_wp2_with fail
    with_reducible refine (HY2.out _).mono ?_
    rintro e w4 ⟨rfl, rfl⟩
    go_wp2_with fail
    with_reducible refine (HY3.out _).mono ?_
    rintro e w4 ⟨rfl, rfl⟩
    go_wp2_with fail
    go_quiet (fail)
    go_wp2_with fail
    go_quiet (fail)
    have e1 : (4352 + a - 4352) * 588 + (4449 + b - 4449) * 28 = k := by have := HP.out; omega
    have e2 : (4352 + a' - 4352) * 588 + (4449 + b' - 4449) * 28 + (4519 + t' - 4519) = k + 1 := by have := HP'.out; omega
    rw [e1, e2]
    clear e1 e2
    have r1 : (k == k) = true := by simp
    have r2 : (k + 1 == k + 1) = true := by simp
    have r4 : 4519 + t' - 4519 < 28 := by omega
    go_wp2
    go_ret
    exact ⟨rfl, ((hb1.trans hb2).trans hb3).drewN _⟩
  · have HS1 := Lib.hid (fun w => split_three (44032 + k) (4352 + a) (4449 + b) (4519 + t) w (by omega) (by omega) (by omega) (by omega) (by omega) (by omega))
    have HS2 := Lib.hid (fun w => split_two (44032 + k + 1) (4352 + a') (4449 + b') w (by omega) (by omega) (by omega) (by omega) (by omega))
    clear ha hb ht ha' hb' ht'
    have HP := Lib.hid l7
    have HP' := Lib.hid m7
    clear l7 m7
    go_enter Try.func5, Try.ntmps5
    go_wp2_with fail
    rw [HK.out]
    with_reducible refine (HS1.out _).mono ?_
    rintro e w1 ⟨A1, cap1, rfl, hcap1, hrd1, hnil1, hb1⟩
    obtain ⟨g1, o1, rfl, _, _⟩ := hrd1.isSome (by simp)
    have HR1 := Lib.hid hrd1
    clear hrd1 hnil1
    go_wp2_with fail
    with_reducible refine (HS2.out _).mono ?_
    rintro e w2 ⟨A2, cap2, rfl, hcap2, hrd2, hnil2, hb2⟩
    obtain ⟨g2, o2, rfl, _, _⟩ := hrd2.isSome (by simp)
    have HR2 := Lib.hid hrd2
    clear hrd2 hnil2
    go_wp2_with fail
    with_reducible refine (answers_is _).mono ?_
    rintro e w3 ⟨rfl, hb3⟩
    have c0 : w3.cell? ⟨g1, o1, none⟩ = some (.int .i32 (4352 + a)) := ((HR1.out.bel hb2).bel hb3).at (i := 0) rfl
    have c1 : w3.cell? ⟨g1, o1 + 1, none⟩ = some (.int .i32 (4449 + b)) := ((HR1.out.bel hb2).bel hb3).at (i := 1) rfl
    have c2 : w3.cell? ⟨g1, o1 + 2, none⟩ = some (.int .i32 (4519 + t)) := ((HR1.out.bel hb2).bel hb3).at (i := 2) rfl
    have d0 : w3.cell? ⟨g2, o2, none⟩ = some (.int .i32 (4352 + a')) := (HR2.out.bel hb3).at (i := 0) rfl
    have d1 : w3.cell? ⟨g2, o2 + 1, none⟩ = some (.int .i32 (4449 + b')) := (HR2.out.bel hb3).at (i := 1) rfl
    go_wp2_with fail
    with_reducible refine (HY1.out _).mono ?_
    rintro e w4 ⟨rfl, rfl⟩
    go_wp2_with fail
    with_reducible refine (HY2.out _).mono ?_
    rintro e w4 ⟨rfl, rfl⟩
    go_wp2_with fail
    with_reducible refine (HY3.out _).mono ?_
    rintro e w4 ⟨rfl, rfl⟩
    go_wp2_with fail
    go_quiet (fail)
    go_wp2_with fail
    go_quiet (fail)
    have e1 : (4352 + a - 4352) * 588 + (4449 + b - 4449) * 28 + (4519 + t - 4519) = k := by have := HP.out; omega
    have e2 : (4352 + a' - 4352) * 588 + (4449 + b' - 4449) * 28 = k + 1 := by have := HP'.out; omega
    rw [e1, e2]
    clear e1 e2
    have r1 : (k == k) = true := by simp
    have r2 : (k + 1 == k + 1) = true := by simp
    have r3 : 4519 + t - 4519 < 28 := by omega
    go_wp2
    go_ret
    exact ⟨rfl, ((hb1.trans hb2).trans hb3).drewN _⟩
  · have HS1 := Lib.hid (fun w => split_three (44032 + k) (4352 + a) (4449 + b) (4519 + t) w (by omega) (by omega) (by omega) (by omega) (by omega) (by omega))
    have HS2 := Lib.hid (fun w => split_three (44032 + k + 1) (4352 + a') (4449 + b') (4519 + t') w (by omega) (by omega) (by omega) (by omega) (by omega) (by omega))
    clear ha hb ht ha' hb' ht'
    have HP := Lib.hid l7
    have HP' := Lib.hid m7
    clear l7 m7
    go_enter Try.func5, Try.ntmps5
    go_wp2_with fail
    rw [HK.out]
    with_reducible refine (HS1.out _).mono ?_
    rintro e w1 ⟨A1, cap1, rfl, hcap1, hrd1, hnil1, hb1⟩
    obtain ⟨g1, o1, rfl, _, _⟩ := hrd1.isSome (by simp)
    have HR1 := Lib.hid hrd1
    clear hrd1 hnil1
    go_wp2_with fail
    with_reducible refine (HS2.out _).mono ?_
    rintro e w2 ⟨A2, cap2, rfl, hcap2, hrd2, hnil2, hb2⟩
    obtain ⟨g2, o2, rfl, _, _⟩ := hrd2.isSome (by simp)
    have HR2 := Lib.hid hrd2
    clear hrd2 hnil2
    go_wp2_with fail
    with_reducible refine (answers_is _).mono ?_
    rintro e w3 ⟨rfl, hb3⟩
    have c0 : w3.cell? ⟨g1, o1, none⟩ = some (.int .i32 (4352 + a)) := ((HR1.out.bel hb2).bel hb3).at (i := 0) rfl
    have c1 : w3.cell? ⟨g1, o1 + 1, none⟩ = some (.int .i32 (4449 + b)) := ((HR1.out.bel hb2).bel hb3).at (i := 1) rfl
    have c2 : w3.cell? ⟨g1, o1 + 2, none⟩ = some (.int .i32 (4519 + t)) := ((HR1.out.bel hb2).bel hb3).at (i := 2) rfl
    have d0 : w3.cell? ⟨g2, o2, none⟩ = some (.int .i32 (4352 + a')) := (HR2.out.bel hb3).at (i := 0) rfl
    have d1 : w3.cell? ⟨g2, o2 + 1, none⟩ = some (.int .i32 (4449 + b')) := (HR2.out.bel hb3).at (i := 1) rfl
    have d2 : w3.cell? ⟨g2, o2 + 2, none⟩ = some (.int .i32 (4519 + t')) := (HR2.out.bel hb3).at (i := 2) rfl
    go_wp2_with fail
    with_reducible refine (HY1.out _).mono ?_
    rintro e w4 ⟨rfl, rfl⟩
    go_wp2_with fail
    with_reducible refine (HY2.out _).mono ?_
    rintro e w4 ⟨rfl, rfl⟩
    go_wp2_with fail
    with_reducible refine (HY3.out _).mono ?_
    rintro e w4 ⟨rfl, rfl⟩
    go_wp2_with fail
    go_quiet (fail)
    go_wp2_with fail
    go_quiet (fail)
    have e1 : (4352 + a - 4352) * 588 + (4449 + b - 4449) * 28 + (4519 + t - 4519) = k := by have := HP.out; omega
    have e2 : (4352 + a' - 4352) * 588 + (4449 + b' - 4449) * 28 + (4519 + t' - 4519) = k + 1 := by have := HP'.out; omega
    rw [e1, e2]
    clear e1 e2
    have r1 : (k == k) = true := by simp
    have r2 : (k + 1 == k + 1) = true := by simp
    have r3 : 4519 + t - 4519 < 28 := by omega
    have r4 : 4519 + t' - 4519 < 28 := by omega
    go_wp2
    go_ret
    exact ⟨rfl, ((hb1.trans hb2).trans hb3).drewN _⟩
end Go.Proofs.Ytalabobiaahppaa.U
