/- NfdJoins answers true at any two lists; nothing that was there is changed. -/
import Derived.Test.YtagcaloocdgmhaaDoorWOrd
namespace Go.Proofs.YtagcaloocdgmhaaDoor.U
open Go.RowKit
set_option linter.unusedVariables false

/-- What comes of 32 bits is 32 bits. -/
theorem ap_fit {c : Int} (hc : -2147483648 ≤ c ∧ c ≤ 2147483647) {x : Int} (h : x ∈ ap c) : -2147483648 ≤ x ∧ x ≤ 2147483647 := by
  generalize hn : mu c = n
  induction n using Nat.strongRecOn generalizing c with
  | _ n ih =>
    by_cases hp : pts c = []
    · rw [ap_free hp] at h
      simp at h
      rw [h]; exact hc
    · rw [ap_split hp] at h
      obtain ⟨p, hpm, hx⟩ := List.mem_flatMap.1 h
      refine ih (mu p) (by have := mu_lt hpm; omega) (c := p) ?_ hx rfl
      rcases pts_ways c with ⟨t, ht, rfl, ⟨_, e⟩ | ⟨_, e⟩⟩ | ⟨e, h1, h2⟩ | ⟨e, _⟩
      · have g := in16_true.1 (List.all_eq_true.1 in16S t ht)
        rw [e] at hpm
        simp at hpm
        omega
      · have g := in16_true.1 (List.all_eq_true.1 in16S t ht)
        rw [e] at hpm
        simp at hpm
        omega
      · rw [e] at hpm
        have := parts_mem hpm
        omega
      · exact absurd e hp
theorem ans_only (A B : Option Addr) (na ca nb cb : Nat) (w : World) (hS : Sp w) (h : 100 < na ∨ (¬ 100 < na ∧ 100 < nb) ∨ (¬ 100 < na ∧ nb = 0)) : Calls Tryd.prog 4 #[.slice A na ca, .slice B nb cb] w (BoolIs w true) := by
  have H := Lib.hid (answers_is w hS)
  clear hS
  rcases h with h | ⟨h0, h⟩ | ⟨h0, h⟩
  · have q : (100 : Int) < (na : Int) := by omega
    go_enter Tryd.func4, Tryd.ntmps4
    go_wp2_with fail
    with_reducible refine H.out.mono ?_
    rintro e w1 ⟨rfl, h1⟩
    go_wp2
    go_ret
    exact ⟨rfl, h1⟩
  · have q : ¬ (100 : Int) < (na : Int) := by omega
    have q2 : (100 : Int) < (nb : Int) := by omega
    go_enter Tryd.func4, Tryd.ntmps4
    go_wp2_with fail
    with_reducible refine H.out.mono ?_
    rintro e w1 ⟨rfl, h1⟩
    go_wp2
    go_ret
    exact ⟨rfl, h1⟩
  · subst h
    have q : ¬ (100 : Int) < (na : Int) := by omega
    go_enter Tryd.func4, Tryd.ntmps4
    go_wp2_with fail
    with_reducible refine H.out.mono ?_
    rintro e w1 ⟨rfl, h1⟩
    go_wp2
    go_ret
    exact ⟨rfl, h1⟩

set_option maxRecDepth 1000000 in
set_option maxHeartbeats 1600000 in
theorem walk_joins (A : Option Addr) (na ca : Nat) (la : List Int) (B : Option Addr) (nb cb : Nat) (lb : List Int) (w : World) (hS : Sp w) (h : Came .i32 w A na ca la) (h' : Came .i32 w B nb cb lb) :
    Calls Tryd.prog 4 #[.slice A na ca, .slice B nb cb] w (BoolIs w true) := by
  obtain ⟨i0, hi0, hz0, hz1, hz2⟩ := info_parts info21
  by_cases hans : 100 < na ∨ (¬ 100 < na ∧ 100 < nb) ∨ (¬ 100 < na ∧ nb = 0)
  · exact ans_only A B na ca nb cb w hS hans
  · have hFb := fit_of h'
    obtain ⟨hl, hc, hrd, hnil, _⟩ := h
    obtain ⟨hl', hc', hrd', hnil', _⟩ := h'
    have n1 : na ≤ 100 := by omega
    have n2 : nb ≤ 100 := by omega
    have n3 : 0 < nb := by omega
    have q1 : ¬ (100 : Int) < (na : Int) := by omega
    have q2 : ¬ (100 : Int) < (nb : Int) := by omega
    have q3 : ((nb : Int) == 0) = false := by simp; omega
    have H := Lib.hid (nfd_is B nb cb _ lb w hrd' hl' (by omega) (by have := apL_max lb; omega) hS)
    have HS := Lib.hid hS
    have HL := Lib.hid hl
    have HL' := Lib.hid hl'
    have HR := Lib.hid hrd
    have HR' := Lib.hid hrd'
    have HNIL := Lib.hid hnil
    have HNIL' := Lib.hid hnil'
    have HFB := Lib.hid hFb
    clear hl hl' hrd hrd' hnil hnil' hS hans hFb
    go_enter Tryd.func4, Tryd.ntmps4
    go_wp2_with fail
    with_reducible refine H.out.mono ?_
    rintro e w1 ⟨v1, Y, rfl, hord, hown, hb1⟩
    obtain ⟨m, hm⟩ : ∃ m, Y.length = m := ⟨_, rfl⟩
    obtain ⟨A1, cap1, rfl, hcap1, hrd1, hnil1⟩ := hown.rdn hm
    have hm0 : 0 < m := by
      have h1 := apL_ge lb
      have h2 := hord.1.length
      have h3 := HL'.out
      omega
    have hm9 : m ≤ 300 := by
      have h1 := apL_max lb
      have h2 := hord.1.length
      have h3 := HL'.out
      omega
    obtain ⟨y, hy⟩ : ∃ y, Y[0]? = some y := ⟨Y[0]'(by omega), by simp⟩
    have hfy : -2147483648 ≤ y ∧ y ≤ 2147483647 := by
      have h1 : y ∈ apL lb := hord.1.mem.1 (List.mem_of_getElem? hy)
      obtain ⟨b, hb, hyb⟩ := List.mem_flatMap.1 h1
      exact ap_fit (HFB.out b hb) hyb
    have HORD := Lib.hid hord
    have HM := Lib.hid hm
    have HR1 := Lib.hid hrd1
    have HNIL1 := Lib.hid hnil1
    have H1 := Lib.hid (answers_is w1 (HS.out.by hb1))
    clear H hord hown hm hrd1 hnil1
    go_wp2_with fail
    with_reducible refine H1.out.mono ?_
    rintro e w2 ⟨rfl, h2⟩
    have hbw2 := hb1.trans h2
    have hR2 := HR1.out.bel h2
    obtain ⟨g, off, rfl, _, _⟩ := hR2.isSome (by rw [HM.out]; exact hm0)
    have hcell := hR2.at hy
    rw [Nat.add_zero] at hcell
    have HR2 := Lib.hid hR2
    obtain ⟨cy, hcy⟩ : ∃ c, cls y = c := ⟨_, rfl⟩
    have H2 := Lib.hid (fun w => rclass_is y cy w hfy hcy)
    have HCY := Lib.hid hcy
    have HY := Lib.hid hy
    have hnn := cls_nn y
    rw [hcy] at hnn
    have q4 : ((m : Int) == 0) = false := by simp; omega
    clear H1 hR2 hcy hy hfy
    go_wp2_with fail
    with_reducible refine (H2.out _).mono ?_
    rintro e w3 ⟨rfl, h3⟩
    have hbw3 := hbw2.trans h3.bel
    have HR3 := Lib.hid (HR2.out.bel h3.bel)
    by_cases hp : 0 < cy
    · have H3 := Lib.hid (answers_is w3 (HS.out.by hbw3))
      have q5 : (0 : Int) < (m : Int) := by omega
      go_wp2_with fail
      with_reducible refine H3.out.mono ?_
      rintro e w4 ⟨rfl, h4⟩
      go_wp2
      go_ret
      exact ⟨by first | rfl | (refine ret_bool ?_; simp; omega), hbw3.trans h4⟩
    · have hy0 : cls y = 0 := by rw [HCY.out]; omega
      have HY0 := Lib.hid hy0
      have HO := Lib.hid (Own.empty_at (w := w3) 21 .i32 rfl)
      have HRa := Lib.hid ((HR.out.bel hbw3).alloc (.cells #[] 21))
      have HRb := Lib.hid ((HR'.out.bel hbw3).alloc (.cells #[] 21))
      have HB3 := Lib.hid hbw3
      clear H2 h2 h3 HR2 HR1 hnn hy0 hcell
      go_wp2_with (first
        | (at_builtin; refine wpl_append (by rfl) (.tmp 42) (.tmp 43) 22 rfl Tryd.underlying22 hi0 hz0 hz1 hz2 rfl (by omega) HO.out rfl HRa.out rfl HL.out HNIL.out (by simp; omega) (by simp) ?_; intro v4 w4 hown4 hb4; rw [List.nil_append] at hown4; have hbw4 : Bel w3 w4 := Below.trans ((Bel.refl w3).alloc _) hb4; have hrb4 := HR'.out.bel (HB3.out.trans hbw4))
        | (at_builtin; refine wpl_append (by rfl) (.tmp 44) (.tmp 45) 22 rfl Tryd.underlying22 hi0 hz0 hz1 hz2 rfl (by omega) hown4 rfl hrb4 rfl HL'.out HNIL'.out (by rw [HL.out]; omega) hbw4.size ?_; intro v5 w5 hown5 hb5; have hbw5 : Bel w3 w5 := Below.trans hbw4 hb5; obtain ⟨A5, cap5, rfl, hcap5, hrd5, hnil5⟩ := hown5.rdn (n := na + nb) (by rw [List.length_append, HL.out, HL'.out]))
        | fail)
      have hbx5 := HB3.out.trans hbw5
      have HRa5 := Lib.hid (HR.out.bel hbx5)
      have HRy5 := Lib.hid (HR3.out.bel hbw5)
      have H3 := Lib.hid (nfd_is A5 (na + nb) cap5 _ (la ++ lb) w5 hrd5 (by rw [List.length_append, HL.out, HL'.out]) (by omega) (by have h1 := apL_max (la ++ lb); rw [List.length_append, HL.out, HL'.out] at h1; omega) (HS.out.by hbx5))
      clear hown4 hb4 hbw4 hrb4 hown5 hb5 hrd5 hnil5 HO HRa HRb
      with_reducible refine H3.out.mono ?_
      rintro e w6 ⟨v6, Z, rfl, hordZ, hown6, hb6⟩
      obtain ⟨mz, hmz⟩ : ∃ mz, Z.length = mz := ⟨_, rfl⟩
      obtain ⟨A6, cap6, rfl, hcap6, hrd6, hnil6⟩ := hown6.rdn hmz
      have hbx6 := hbx5.trans hb6
      have HRz6 := Lib.hid hrd6
      have HRy6 := Lib.hid (HRy5.out.bel hb6)
      have H4 := Lib.hid (nfd_is A na ca _ la w6 (HRa5.out.bel hb6) HL.out (by omega) (by have h1 := apL_max la; rw [HL.out] at h1; omega) (HS.out.by hbx6))
      have HOZ := Lib.hid hordZ
      have HMZ := Lib.hid hmz
      clear H3 hordZ hmz hown6 hrd6 hnil6 HRa5 HRy5
      go_wp2_with fail
      with_reducible refine H4.out.mono ?_
      rintro e w7 ⟨v7, X, rfl, hordX, hown7, hb7⟩
      obtain ⟨mx, hmx⟩ : ∃ mx, X.length = mx := ⟨_, rfl⟩
      obtain ⟨A7, cap7, rfl, hcap7, _, _⟩ := hown7.rdn hmx
      have HRz7 := Lib.hid (HRz6.out.bel hb7)
      have HRy7 := Lib.hid (HRy6.out.bel hb7)
      have HOW7 := Lib.hid hown7
      have hmx9 : mx ≤ 300 := by
        have h1 := apL_max la
        have h2 := hordX.1.length
        rw [HL.out] at h1
        omega
      have hZ : Z = X ++ Y := by
        refine ord_one HOZ.out ?_
        rw [apL_append]
        exact ord_append hordX HORD.out fun c hc => by
          obtain rfl := Option.some.inj (HY.out.symm.trans hc)
          exact HY0.out
      have hmz : mz = mx + m := by rw [← HMZ.out, hZ, List.length_append, hmx, HM.out]
      have HZ := Lib.hid hZ
      have HMX := Lib.hid hmx
      have h67 := hb7.size
      clear H4 hordX hown7 hmx hZ
      go_wp2_with (first
        | (at_builtin; refine wpl_append (by rfl) (.tmp 49) (.tmp 50) 22 rfl Tryd.underlying22 hi0 hz0 hz1 hz2 rfl (by omega) HOW7.out rfl HRy7.out rfl HM.out (fun e => by cases e) (by rw [HMX.out]; omega) h67 ?_; intro v8 w8 hown8 hb8; obtain ⟨A8, cap8, rfl, hcap8, hrd8, hnil8⟩ := hown8.rdn (n := mx + m) (by rw [List.length_append, HMX.out, HM.out]))
        | fail)
      have hbx8 : Bel w w8 := Below.trans (hbx6.trans hb7) (Below.mono hb8 hbx6.size)
      have HRz8 := Lib.hid (HRz7.out.below hb8)
      have H5 := Lib.hid (runes_is A6 A8 (mx + m) (mx + m) cap6 cap8 Z (X ++ Y) _ _ true w8 HRz8.out hrd8 (by rw [HMZ.out]; exact hmz) (by rw [List.length_append, HMX.out, HM.out]) (by omega) (by rw [HZ.out]; simp))
      with_reducible refine H5.out.mono ?_
      rintro e w9 ⟨rfl, q9, rfl⟩
      go_wp2
      go_ret
      exact ⟨rfl, hbx8.drewN q9⟩
end Go.Proofs.YtagcaloocdgmhaaDoor.U
