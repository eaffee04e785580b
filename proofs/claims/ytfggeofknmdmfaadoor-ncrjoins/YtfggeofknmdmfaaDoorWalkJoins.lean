/- NcrJoins answers true at every two lists and every number; nothing that was there is changed. The library's table of trailing zeros must hold what it holds. -/
import Derived.Test.YtfggeofknmdmfaaDoorWalkAgain
namespace Go.Proofs.YtfggeofknmdmfaaDoor.U
open Go.RowKit
set_option linter.unusedVariables false

set_option maxRecDepth 100000 in
set_option maxHeartbeats 4000000 in
theorem walk_joins (A : Option Addr) (na ca : Nat) (la : List Int) (c : Int) (B : Option Addr) (nb cb : Nat) (lb : List Int) (w : World) (hT : Tz w) (h : Came .i32 w A na ca la) (h' : Came .i32 w B nb cb lb) :
    Calls Tryd.prog 7 #[.slice A na ca, .int .i32 c, .slice B nb cb] w fun e w' => e = .returned (.bool true) ∧ Bel w w' := by
  obtain ⟨i0, hi0, hz0, hz1, hz2⟩ := info_parts info21
  obtain ⟨hl, hc, hrd, hnil, _⟩ := h
  obtain ⟨hl', hc', hrd', hnil', _⟩ := h'
  have HT := Lib.hid hT
  have HL := Lib.hid hl
  have HR := Lib.hid hrd
  have HN := Lib.hid hnil
  have HL' := Lib.hid hl'
  have HR' := Lib.hid hrd'
  have HN' := Lib.hid hnil'
  clear hT hl hrd hnil hl' hrd' hnil'
  by_cases hna : 100 < na
  · have hd1 : decide ((100 : Int) < (na : Int)) = true := by simp; omega
    go_enter Tryd.func7, Tryd.ntmps7
    go_wp2_with (go_at_call 8; (with_reducible refine (answers_any _ HT.out).mono ?_); rintro e w4 ⟨rfl, hb4⟩)
    go_ret
    exact ⟨rfl, hb4⟩
  · have hd1 : decide ((100 : Int) < (na : Int)) = false := by simp; omega
    by_cases hnb : 100 < nb
    · have hd2 : decide ((100 : Int) < (nb : Int)) = true := by simp; omega
      go_enter Tryd.func7, Tryd.ntmps7
      go_wp2_with (go_at_call 8; (with_reducible refine (answers_any _ HT.out).mono ?_); rintro e w4 ⟨rfl, hb4⟩)
      go_ret
      exact ⟨rfl, hb4⟩
    · have hd2 : decide ((100 : Int) < (nb : Int)) = false := by simp; omega
      by_cases hs : scB c = true
      · obtain ⟨m, hm⟩ : ∃ m, (refL c).length = m := ⟨_, rfl⟩
        have HM := Lib.hid hm
        have hm8 := ref_pos hs
        rw [hm] at hm8
        have HS := Lib.hid hs
        clear hs hm
        obtain ⟨o1, ho1⟩ := exp_ex (la ++ refL c)
        obtain ⟨o2, ho2⟩ := exp_ex lb
        have HE1 := Lib.hid ho1
        have HE2 := Lib.hid ho2
        have HE3 := Lib.hid (exp_join HS.out ho1 ho2)
        obtain ⟨m1, hm1⟩ : ∃ m, o1.length = m := ⟨_, rfl⟩
        obtain ⟨m2, hm2⟩ : ∃ m, o2.length = m := ⟨_, rfl⟩
        have hb1 := exp_length ho1
        have hb2 := exp_length ho2
        rw [List.length_append, HL.out, HM.out, hm1] at hb1
        rw [HL'.out, hm2] at hb2
        have HM1 := Lib.hid hm1
        have HM2 := Lib.hid hm2
        have HX : Hid ((la ++ refL c).length = na + m) := Lib.hid (by rw [List.length_append, HL.out, HM.out])
        have HY : Hid ((la ++ refL c ++ lb).length = na + m + nb) := Lib.hid (by rw [List.length_append, HX.out, HL'.out])
        have HZ : Hid ((o1 ++ o2).length = m1 + m2) := Lib.hid (by rw [List.length_append, HM1.out, HM2.out])
        clear ho1 ho2 hm1 hm2
        have HRa := Lib.hid (HR.out.alloc (.cells #[] 21))
        have HO0 := Lib.hid (Own.empty w 21 .i32)
        go_enter Tryd.func7, Tryd.ntmps7
        go_wp2_with (first
          | (go_at_call 10; (with_reducible refine (rscalar_is _ true _ HS.out).mono ?_); rintro e w' ⟨rfl, rfl⟩)
          | (at_builtin; refine wpl_append (by rfl) (.tmp 23) (.tmp 24) 22 rfl Tryd.underlying22 hi0 hz0 hz1 hz2 rfl (by omega) HO0.out rfl HRa.out rfl HL.out HN.out (by simp; omega) (by simp) ?_; intro v1 w1 hown1 hb1'; have hw1 : Bel w w1 := Below.trans ((Bel.refl w).alloc _) hb1')
          | fail)
        have hsz1 := Below.size hw1
        have HO1 := Lib.hid hown1
        clear hown1 hb1'
        refine (ref_is c m w1 HM.out).mono ?_
        rintro e w2 ⟨A2, cap2, rfl, hcap2, hown2, hrd2, hnil2, hb2'⟩
        obtain ⟨g2, p2, rfl, _, _⟩ := hrd2.isSome (by rw [HM.out]; omega)
        obtain ⟨S2, cap3, w3, hrun2, hrun3, hown3, hcap3, hrd3, hb3⟩ := conv_both hrd2 (ref_asc c) HM.out (by omega)
        have hw3 : Bel w1 w3 := hb2'.trans hb3
        have hsz3 := Below.size hw3
        have HR3 := Lib.hid hrd3
        have HO3 := Lib.hid (HO1.out.keep hw3)
        clear hown2 hrd2 hnil2 hown3 hrd3
        go_wp2_with (first
          | (at_builtin; refine wpl_append (by rfl) (.tmp 25) (.tmp 29) 22 rfl Tryd.underlying22 hi0 hz0 hz1 hz2 rfl (by omega) HO3.out rfl HR3.out rfl HM.out (fun e => by cases e) (by simp [HL.out]; omega) (by omega) ?_; intro v4 w4 hown4 hb4; have hw4 : Bel w w4 := Below.trans (hw1.trans hw3) hb4; obtain ⟨A4, cap4, rfl, hcap4, hrd4, hnil4⟩ := hown4.rdn (l := la ++ refL c) HX.out; have HR4 := Lib.hid hrd4; have HN4 := Lib.hid hnil4; have HR4a := Lib.hid (hrd4.alloc (.cells #[] 21)); have HO4 := Lib.hid (Own.empty w4 21 .i32); have HR4b := Lib.hid ((HR'.out.bel hw4).alloc (.cells #[] 21)); clear hown4 hrd4 hnil4 hb4)
          | (at_builtin; refine wpl_append (by rfl) (.tmp 31) (.tmp 32) 22 rfl Tryd.underlying22 hi0 hz0 hz1 hz2 rfl (by omega) HO4.out rfl HR4a.out rfl HX.out HN4.out (by simp; omega) (by simp) ?_; intro v5 w5 hown5 hb5; have hw5 : Bel w4 w5 := Below.trans ((Bel.refl w4).alloc _) hb5; have hs5 := Below.size hw5; have HR5 := Lib.hid (HR'.out.bel (hw4.trans hw5)))
          | (at_builtin; refine wpl_append (by rfl) (.tmp 33) (.tmp 34) 22 rfl Tryd.underlying22 hi0 hz0 hz1 hz2 rfl (by omega) hown5 rfl HR5.out rfl HL'.out HN'.out (by simp [HL.out, HM.out]; omega) (by omega) ?_; intro v6 w6 hown6 hb6)
          | fail)
        have hw6 : Bel w4 w6 := Below.trans hw5 hb6
        obtain ⟨A6, cap6, rfl, hcap6, hrd6, hnil6⟩ := hown6.rdn (l := la ++ refL c ++ lb) HY.out
        have HR6 := Lib.hid hrd6
        clear hown6 hrd6 hnil6 hown5 hb5 hb6
        refine (expand_is A6 (na + m + nb) cap6 (la ++ refL c ++ lb) (o1 ++ o2) (m1 + m2) w6 HR6.out HY.out hcap6 (by omega) HE3.out HZ.out).mono ?_
        rintro e w7 ⟨A7, cap7, rfl, hcap7, hown7, hrd7, hnil7, hb7⟩
        have HR7 := Lib.hid hrd7
        have hw7 : Bel w w7 := (hw4.trans hw6).trans hb7
        clear hown7 hrd7 hnil7
        go_wp2_with fail
        refine (answers_any w7 (HT.out.bel hw7)).mono ?_
        rintro e w8 ⟨rfl, hb8⟩
        have hw8 := hw7.trans hb8
        have hw48 : Bel w4 w8 := (hw6.trans hb7).trans hb8
        go_wp2_with fail
        refine (expand_is A4 (na + m) cap4 (la ++ refL c) o1 m1 w8 (HR4.out.bel hw48) HX.out hcap4 (by omega) HE1.out HM1.out).mono ?_
        rintro e w9 ⟨A9, cap9, rfl, hcap9, hown9, hrd9, hnil9, hb9⟩
        have HO9 := Lib.hid hown9
        have hsz9 := Below.size hb9
        have hw9 := hw8.trans hb9
        clear hown9 hrd9 hnil9
        go_wp2_with fail
        refine (expand_is B nb cb lb o2 m2 w9 (HR'.out.bel hw9) HL'.out hc' (by omega) HE2.out HM2.out).mono ?_
        rintro e w10 ⟨A10, cap10, rfl, hcap10, hown10, hrd10, hnil10, hb10⟩
        have HR10 := Lib.hid hrd10
        have HN10 := Lib.hid hnil10
        have HO10 := Lib.hid (HO9.out.keep hb10)
        have hsz10 := Below.size hb10
        have hw10 := hw9.trans hb10
        clear hown10 hrd10 hnil10
        go_wp2_with (first
          | (at_builtin; refine wpl_append (by rfl) (.tmp 41) (.tmp 43) 22 rfl Tryd.underlying22 hi0 hz0 hz1 hz2 rfl (by omega) HO10.out rfl HR10.out rfl HM2.out HN10.out (by rw [HM1.out]; omega) (by omega) ?_; intro v11 w11 hown11 hb11)
          | fail)
        have hw8_11 : Bel w8 w11 := Below.trans (hb9.trans hb10) hb11
        obtain ⟨A11, cap11, rfl, hcap11, hrd11, hnil11⟩ := hown11.rdn HZ.out
        have HR11 := Lib.hid hrd11
        clear hown11 hrd11 hnil11 hb11
        refine (runes_is A7 A11 (m1 + m2) (m1 + m2) cap7 cap11 (o1 ++ o2) (o1 ++ o2) _ _ true w11 ((HR7.out.bel hb8).bel hw8_11) HR11.out HZ.out HZ.out (by omega) (by simp)).mono ?_
        rintro e w12 ⟨rfl, q, rfl⟩
        go_wp2
        go_ret
        exact ⟨rfl, (hw8.trans hw8_11).drewN q⟩
      · have hs' : scB c = false := by simpa using hs
        go_enter Tryd.func7, Tryd.ntmps7
        go_wp2_with (first
          | (go_at_call 10; (with_reducible refine (rscalar_is _ false _ hs').mono ?_); rintro e w' ⟨rfl, rfl⟩)
          | (go_at_call 8; (with_reducible refine (answers_any _ HT.out).mono ?_); rintro e w4 ⟨rfl, hb4⟩))
        go_ret
        exact ⟨rfl, hb4⟩
end Go.Proofs.YtfggeofknmdmfaaDoor.U
