/- HangulBack answers true at any number and any two characters; nothing that was there is changed. -/
import Derived.Test.YtalabobiaahppaaWalkSplits
namespace Go.Proofs.Ytalabobiaahppaa.U
open Go.RowKit
set_option linter.unusedVariables false

/-- What stands behind the syllable's own parts: the two characters, joined and split again. -/
theorem back_list {r s y : Int} (h : Joi r s y true) : (parts r = [] ∧ parts y = [r] ++ [s]) ∨ (parts r ≠ [] ∧ parts y = parts r ++ [s]) := by
  have := joi_back h
  by_cases e : parts r = []
  · rw [if_pos e] at this; exact .inl ⟨e, this⟩
  · rw [if_neg e] at this; exact .inr ⟨e, this⟩

theorem Own.empty_at (w : World) (e : TypeId) (k : IntKind) {n b : Nat} (hn : w.heap.size = n) (hb : b ≤ n) : Own (w.alloc (.cells #[] e)) b e k (.slice (some ⟨n, 0, none⟩) 0 0) [] := by
  subst hn; exact (Own.empty w e k).less hb
theorem join_same (r s x : Int) (ok : Bool) (w : World) (h : Joi r s x ok) : Calls Try.prog 6 #[.int .i32 r, .int .i32 s] w fun e w' => e = .returned (.tuple #[.int .i32 x, .bool ok]) ∧ w' = w := by
  refine (join_is r s x ok w h).mono ?_
  rintro e w' ⟨rfl, rfl⟩
  exact ⟨rfl, rfl⟩

set_option maxRecDepth 100000 in
set_option maxHeartbeats 4000000 in
theorem walk_back (n r s : Int) (w : World) (hn : 0 ≤ n ∧ n ≤ 65535) :
    Calls Try.prog 4 #[.int .u16 n, .int .i32 r, .int .i32 s] w fun e w' => e = .returned (.bool true) ∧ Bel w w' := by
  obtain ⟨i0, hi0, hz0, hz1, hz2⟩ := info_parts info21
  obtain ⟨y, yes, hJ⟩ := joi_any r s
  obtain ⟨c, hc⟩ : ∃ c : Int, 44032 + n % 11172 = c := ⟨_, rfl⟩
  have hc0 : 44032 ≤ c := by omega
  have hc1 : c < 55204 := by omega
  have HJ := Lib.hid hJ
  have HC := Lib.hid hc
  have H1 := Lib.hid (fun w => join_is r s y yes w hJ)
  clear hJ hc
  obtain ⟨hn0, hn1⟩ := hn
  have qc : (c == c) = true := by simp
  by_cases ht : (c - 44032) % 28 = 0
  · obtain ⟨a, ha⟩ : ∃ a, 4352 + (c - 44032) / 588 = a := ⟨_, rfl⟩
    obtain ⟨b, hb⟩ : ∃ b, 4449 + (c - 44032) % 588 / 28 = b := ⟨_, rfl⟩
    have HS := Lib.hid (fun w => split_two c a b w hc0 hc1 ht ha hb)
    have hJ2 := two_back hc0 hc1 ht
    rw [ha, hb] at hJ2
    have H2 := Lib.hid (fun w => join_same a b c true w hJ2)
    clear ha hb ht hJ2
    go_enter Try.func4, Try.ntmps4
    go_wp2_with fail
    rw [HC.out]
    with_reducible refine (HS.out _).mono ?_
    rintro e w1 ⟨A1, cap1, rfl, hcap1, hrd1, hnil1, hb1⟩
    obtain ⟨g, off, rfl, _, _⟩ := hrd1.isSome (by simp)
    have HR1 := Lib.hid hrd1
    clear hrd1 hnil1
    go_wp2_with fail
    with_reducible refine (answers_is _).mono ?_
    rintro e w2 ⟨rfl, hb2⟩
    have c0 : w2.cell? ⟨g, off, none⟩ = some (.int .i32 a) := (HR1.out.bel hb2).at (i := 0) rfl
    have c1 : w2.cell? ⟨g, off + 1, none⟩ = some (.int .i32 b) := (HR1.out.bel hb2).at (i := 1) rfl
    go_wp2_with fail
    go_quiet ((go_at_call 6; exact Calls.quiet_of_same (H2.out _)))
    go_wp2_with fail
    have hbw := (hb1.trans hb2).drewN nq
    clear H2 HS HR1 HC hn0 hn1 hc0 hc1
    with_reducible refine (H1.out _).mono ?_
    rintro e w4 ⟨rfl, rfl⟩
    clear H1
    generalize w2.drewN nq = W at *
    cases yes with
    | false =>
      go_wp2
      go_ret
      exact ⟨rfl, hbw⟩
    | true =>
      obtain ⟨m, hm⟩ : ∃ m, (parts y).length = m := ⟨_, rfl⟩
      obtain ⟨k, hk⟩ : ∃ k, (parts r).length = k := ⟨_, rfl⟩
      have hk3 := (parts_len r).1
      rw [hk] at hk3
      have HY := Lib.hid (fun w => split_gives y m w hm)
      have HZ := Lib.hid (fun w => split_gives r k w hk)
      have HM := Lib.hid hm
      have HK := Lib.hid hk
      clear hm hk
      go_wp2_with fail
      with_reducible refine (HY.out _).mono ?_
      rintro e w5 ⟨A5, cap5, rfl, hcap5, hrd5, hnil5, hb5⟩
      have HR5 := Lib.hid hrd5
      clear hrd5 hnil5
      go_wp2_with fail
      with_reducible refine (HZ.out _).mono ?_
      rintro e w6 ⟨A6, cap6, rfl, hcap6, hrd6, hnil6, hb6⟩
      clear HY HZ
      have hbw6 := (hbw.trans hb5).trans hb6
      have HR6 := Lib.hid hrd6
      have HN6 := Lib.hid hnil6
      clear hrd6 hnil6
      rcases back_list HJ.out with ⟨he, hl⟩ | ⟨he, hl⟩
      · obtain rfl : k = 0 := by rw [← HK.out, he]; rfl
        obtain rfl : m = 2 := by rw [← HM.out, hl]; rfl
        have HL := Lib.hid hl
        clear he hl HK HN6 HR6
        have HR7 := Lib.hid ((rd_lit_at (w := w6) (cs := #[.int .i32 r]) (t := 21) (k := .i32) (l := [r]) rfl rfl).alloc (.cells #[] 21))
        have HO7 := Lib.hid (Own.empty_at (w6.alloc (.cells #[.int .i32 r] 21)) 21 .i32 (n := w6.heap.size + 1) (b := w6.heap.size) (by simp) (by omega))
        go_wp2_with (first
          | (at_builtin; refine wpl_append (by rfl) (.tmp 70) (.tmp 71) 24 rfl Try.underlying24 hi0 hz0 hz1 hz2 rfl (by omega) HO7.out rfl HR7.out rfl rfl (fun e => by cases e) (by simp) (by simp; omega) ?_; intro v7 w7 hown7 hb7; have hw7 : Bel w6 w7 := Below.trans (((Bel.refl w6).alloc _).alloc _) hb7; have hs7 := Below.size hw7; have HO8 := Lib.hid (hown7.keep ((Bel.refl w7).alloc (.cells #[.int .i32 s] 21))); clear hown7 hb7)
          | (at_builtin; refine wpl_append (by rfl) (.tmp 72) (.tmp 74) 24 rfl Try.underlying24 hi0 hz0 hz1 hz2 rfl (by omega) HO8.out rfl (rd_lit (l := [s]) rfl) rfl rfl (fun e => by cases e) (by simp) (by simp; omega) ?_; intro v8 w8 hown8 hb8)
          | fail)
        have hw8 : Bel w6 w8 := Below.trans (hw7.alloc _) hb8
        obtain ⟨A8, cap8, rfl, hcap8, hrd8, hnil8⟩ := hown8.rdn (n := 2) (by simp)
        have HR8 := Lib.hid hrd8
        clear hown8 hrd8 hnil8 hb8
        with_reducible refine (runes_is A5 A8 2 2 cap5 cap8 (parts y) ([] ++ [r] ++ [s]) _ _ true w8 ((HR5.out.bel hb6).bel hw8) HR8.out HM.out (by simp) (by omega) (by rw [HL.out]; simp)).mono ?_
        rintro e w9 ⟨rfl, q, rfl⟩
        go_wp2
        go_ret
        exact ⟨rfl, (hbw6.trans hw8).drewN q⟩
      · have hk0 : ¬ k = 0 := by
          rw [← HK.out]
          exact fun e => he (List.eq_nil_of_length_eq_zero e)
        have hq : ((k : Int) == 0) = false := by simp; omega
        obtain rfl : m = k + 1 := by rw [← HM.out, hl, List.length_append, HK.out]; rfl
        have HL := Lib.hid hl
        clear he hl hk0
        have HR7 := Lib.hid (HR6.out.alloc (.cells #[] 21))
        have HO7 := Lib.hid (Own.empty_at w6 21 .i32 (n := w6.heap.size) (b := w6.heap.size) rfl (by omega))
        go_wp2_with (first
          | (at_builtin; refine wpl_append (by rfl) (.tmp 70) (.tmp 71) 24 rfl Try.underlying24 hi0 hz0 hz1 hz2 rfl (by omega) HO7.out rfl HR7.out rfl HK.out HN6.out (by simp; omega) (by simp) ?_; intro v7 w7 hown7 hb7; have hw7 : Bel w6 w7 := Below.trans ((Bel.refl w6).alloc _) hb7; have hs7 := Below.size hw7; have HO8 := Lib.hid (hown7.keep ((Bel.refl w7).alloc (.cells #[.int .i32 s] 21))); clear hown7 hb7)
          | (at_builtin; refine wpl_append (by rfl) (.tmp 72) (.tmp 74) 24 rfl Try.underlying24 hi0 hz0 hz1 hz2 rfl (by omega) HO8.out rfl (rd_lit (l := [s]) rfl) rfl rfl (fun e => by cases e) (by simp [HK.out]; omega) (by simp; omega) ?_; intro v8 w8 hown8 hb8)
          | fail)
        have hw8 : Bel w6 w8 := Below.trans (hw7.alloc _) hb8
        obtain ⟨A8, cap8, rfl, hcap8, hrd8, hnil8⟩ := hown8.rdn (n := k + 1) (by simp [HK.out])
        have HR8 := Lib.hid hrd8
        clear hown8 hrd8 hnil8 hb8
        with_reducible refine (runes_is A5 A8 (k + 1) (k + 1) cap5 cap8 (parts y) ([] ++ parts r ++ [s]) _ _ true w8 ((HR5.out.bel hb6).bel hw8) HR8.out HM.out (by simp [HK.out]) (by omega) (by rw [HL.out]; simp)).mono ?_
        rintro e w9 ⟨rfl, q, rfl⟩
        go_wp2
        go_ret
        exact ⟨rfl, (hbw6.trans hw8).drewN q⟩
  · obtain ⟨a, ha⟩ : ∃ a, 4352 + (c - 44032) / 588 = a := ⟨_, rfl⟩
    obtain ⟨b, hb⟩ : ∃ b, 4449 + (c - 44032) % 588 / 28 = b := ⟨_, rfl⟩
    obtain ⟨d, hd⟩ : ∃ d, 4519 + (c - 44032) % 28 = d := ⟨_, rfl⟩
    obtain ⟨x, hx⟩ : ∃ x, c - (c - 44032) % 28 = x := ⟨_, rfl⟩
    have HS := Lib.hid (fun w => split_three c a b d w hc0 hc1 (by omega) ha hb hd)
    have hJ2 := three_back1 hc0 hc1
    rw [ha, hb, hx] at hJ2
    have hJ3 := three_back2 hc0 hc1 (by omega)
    rw [hd, hx] at hJ3
    have H2 := Lib.hid (fun w => join_same a b x true w hJ2)
    have H3 := Lib.hid (fun w => join_is x d c true w hJ3)
    clear ha hb hd hx ht hJ2 hJ3
    go_enter Try.func4, Try.ntmps4
    go_wp2_with fail
    rw [HC.out]
    with_reducible refine (HS.out _).mono ?_
    rintro e w1 ⟨A1, cap1, rfl, hcap1, hrd1, hnil1, hb1⟩
    obtain ⟨g, off, rfl, _, _⟩ := hrd1.isSome (by simp)
    have HR1 := Lib.hid hrd1
    clear hrd1 hnil1
    go_wp2_with fail
    with_reducible refine (answers_is _).mono ?_
    rintro e w2 ⟨rfl, hb2⟩
    have c0 : w2.cell? ⟨g, off, none⟩ = some (.int .i32 a) := (HR1.out.bel hb2).at (i := 0) rfl
    have c1 : w2.cell? ⟨g, off + 1, none⟩ = some (.int .i32 b) := (HR1.out.bel hb2).at (i := 1) rfl
    have c2 : w2.cell? ⟨g, off + 2, none⟩ = some (.int .i32 d) := (HR1.out.bel hb2).at (i := 2) rfl
    go_wp2_with fail
    go_quiet ((go_at_call 6; exact Calls.quiet_of_same (H2.out _)))
    go_wp2_with fail
    with_reducible refine (H3.out _).mono ?_
    rintro e w3 ⟨rfl, rfl⟩
    go_wp2_with fail
    have hbw := (hb1.trans hb2).drewN nq
    clear H2 HS HR1 HC hn0 hn1 hc0 hc1
    with_reducible refine (H1.out _).mono ?_
    rintro e w4 ⟨rfl, rfl⟩
    clear H1
    generalize w2.drewN nq = W at *
    cases yes with
    | false =>
      go_wp2
      go_ret
      exact ⟨rfl, hbw⟩
    | true =>
      obtain ⟨m, hm⟩ : ∃ m, (parts y).length = m := ⟨_, rfl⟩
      obtain ⟨k, hk⟩ : ∃ k, (parts r).length = k := ⟨_, rfl⟩
      have hk3 := (parts_len r).1
      rw [hk] at hk3
      have HY := Lib.hid (fun w => split_gives y m w hm)
      have HZ := Lib.hid (fun w => split_gives r k w hk)
      have HM := Lib.hid hm
      have HK := Lib.hid hk
      clear hm hk
      go_wp2_with fail
      with_reducible refine (HY.out _).mono ?_
      rintro e w5 ⟨A5, cap5, rfl, hcap5, hrd5, hnil5, hb5⟩
      have HR5 := Lib.hid hrd5
      clear hrd5 hnil5
      go_wp2_with fail
      with_reducible refine (HZ.out _).mono ?_
      rintro e w6 ⟨A6, cap6, rfl, hcap6, hrd6, hnil6, hb6⟩
      clear HY HZ
      have hbw6 := (hbw.trans hb5).trans hb6
      have HR6 := Lib.hid hrd6
      have HN6 := Lib.hid hnil6
      clear hrd6 hnil6
      rcases back_list HJ.out with ⟨he, hl⟩ | ⟨he, hl⟩
      · obtain rfl : k = 0 := by rw [← HK.out, he]; rfl
        obtain rfl : m = 2 := by rw [← HM.out, hl]; rfl
        have HL := Lib.hid hl
        clear he hl HK HN6 HR6
        have HR7 := Lib.hid ((rd_lit_at (w := w6) (cs := #[.int .i32 r]) (t := 21) (k := .i32) (l := [r]) rfl rfl).alloc (.cells #[] 21))
        have HO7 := Lib.hid (Own.empty_at (w6.alloc (.cells #[.int .i32 r] 21)) 21 .i32 (n := w6.heap.size + 1) (b := w6.heap.size) (by simp) (by omega))
        go_wp2_with (first
          | (at_builtin; refine wpl_append (by rfl) (.tmp 70) (.tmp 71) 24 rfl Try.underlying24 hi0 hz0 hz1 hz2 rfl (by omega) HO7.out rfl HR7.out rfl rfl (fun e => by cases e) (by simp) (by simp; omega) ?_; intro v7 w7 hown7 hb7; have hw7 : Bel w6 w7 := Below.trans (((Bel.refl w6).alloc _).alloc _) hb7; have hs7 := Below.size hw7; have HO8 := Lib.hid (hown7.keep ((Bel.refl w7).alloc (.cells #[.int .i32 s] 21))); clear hown7 hb7)
          | (at_builtin; refine wpl_append (by rfl) (.tmp 72) (.tmp 74) 24 rfl Try.underlying24 hi0 hz0 hz1 hz2 rfl (by omega) HO8.out rfl (rd_lit (l := [s]) rfl) rfl rfl (fun e => by cases e) (by simp) (by simp; omega) ?_; intro v8 w8 hown8 hb8)
          | fail)
        have hw8 : Bel w6 w8 := Below.trans (hw7.alloc _) hb8
        obtain ⟨A8, cap8, rfl, hcap8, hrd8, hnil8⟩ := hown8.rdn (n := 2) (by simp)
        have HR8 := Lib.hid hrd8
        clear hown8 hrd8 hnil8 hb8
        with_reducible refine (runes_is A5 A8 2 2 cap5 cap8 (parts y) ([] ++ [r] ++ [s]) _ _ true w8 ((HR5.out.bel hb6).bel hw8) HR8.out HM.out (by simp) (by omega) (by rw [HL.out]; simp)).mono ?_
        rintro e w9 ⟨rfl, q, rfl⟩
        go_wp2
        go_ret
        exact ⟨rfl, (hbw6.trans hw8).drewN q⟩
      · have hk0 : ¬ k = 0 := by
          rw [← HK.out]
          exact fun e => he (List.eq_nil_of_length_eq_zero e)
        have hq : ((k : Int) == 0) = false := by simp; omega
        obtain rfl : m = k + 1 := by rw [← HM.out, hl, List.length_append, HK.out]; rfl
        have HL := Lib.hid hl
        clear he hl hk0
        have HR7 := Lib.hid (HR6.out.alloc (.cells #[] 21))
        have HO7 := Lib.hid (Own.empty_at w6 21 .i32 (n := w6.heap.size) (b := w6.heap.size) rfl (by omega))
        go_wp2_with (first
          | (at_builtin; refine wpl_append (by rfl) (.tmp 70) (.tmp 71) 24 rfl Try.underlying24 hi0 hz0 hz1 hz2 rfl (by omega) HO7.out rfl HR7.out rfl HK.out HN6.out (by simp; omega) (by simp) ?_; intro v7 w7 hown7 hb7; have hw7 : Bel w6 w7 := Below.trans ((Bel.refl w6).alloc _) hb7; have hs7 := Below.size hw7; have HO8 := Lib.hid (hown7.keep ((Bel.refl w7).alloc (.cells #[.int .i32 s] 21))); clear hown7 hb7)
          | (at_builtin; refine wpl_append (by rfl) (.tmp 72) (.tmp 74) 24 rfl Try.underlying24 hi0 hz0 hz1 hz2 rfl (by omega) HO8.out rfl (rd_lit (l := [s]) rfl) rfl rfl (fun e => by cases e) (by simp [HK.out]; omega) (by simp; omega) ?_; intro v8 w8 hown8 hb8)
          | fail)
        have hw8 : Bel w6 w8 := Below.trans (hw7.alloc _) hb8
        obtain ⟨A8, cap8, rfl, hcap8, hrd8, hnil8⟩ := hown8.rdn (n := k + 1) (by simp [HK.out])
        have HR8 := Lib.hid hrd8
        clear hown8 hrd8 hnil8 hb8
        with_reducible refine (runes_is A5 A8 (k + 1) (k + 1) cap5 cap8 (parts y) ([] ++ parts r ++ [s]) _ _ true w8 ((HR5.out.bel hb6).bel hw8) HR8.out HM.out (by simp [HK.out]) (by omega) (by rw [HL.out]; simp)).mono ?_
        rintro e w9 ⟨rfl, q, rfl⟩
        go_wp2
        go_ret
        exact ⟨rfl, (hbw6.trans hw8).drewN q⟩
end Go.Proofs.Ytalabobiaahppaa.U
