/- HangulSplits answers true at any two characters; nothing that was there is changed. -/
import Derived.Test.YtalabobiaahppaaRef
import Derived.Test.YtalabobiaahppaaRunes
namespace Go.Proofs.Ytalabobiaahppaa.U
open Go.RowKit
set_option linter.unusedVariables false

theorem answers_is (w : World) : Calls Try.prog 9 #[] w fun e w' => e = .returned (.bool true) ∧ Bel w w' := by
  have HJ := Lib.hid (show Joi 4352 4449 44032 true from .inl ⟨⟨by omega, by omega, by omega, by omega⟩, rfl, by omega⟩)
  go_enter Try.func9, Try.ntmps9
  go_wp2_with fail
  with_reducible refine (split_three 44033 4352 4449 4520 _ (by omega) (by omega) (by omega) (by omega) (by omega) (by omega)).mono ?_
  rintro e w1 ⟨A, cap, rfl, hcap, hrd, hnil, hb⟩
  obtain ⟨g, off, rfl, _, _⟩ := hrd.isSome (by simp)
  have hc := hrd.at (i := 2) (x := 4520) rfl
  clear hrd hnil
  go_wp2_with (go_at_call 6; (with_reducible refine (join_is _ _ 44032 true _ HJ.out).mono ?_); rintro e w' ⟨rfl, rfl⟩)
  go_ret
  exact ⟨rfl, hb⟩

/-- What Split gives, and what Parts gives: the same list, at every character. -/
theorem split_gives (r : Int) (n : Nat) (w : World) (h : (parts r).length = n) : Calls Try.prog 8 #[.int .i32 r] w (Gives w (parts r) n) := by
  by_cases h0 : 44032 ≤ r ∧ r < 55204
  · obtain ⟨h0, h1⟩ := h0
    by_cases ht : (r - 44032) % 28 = 0
    · rw [parts_two h0 h1 ht] at h ⊢
      subst h
      exact split_two r _ _ w h0 h1 ht rfl rfl
    · rw [parts_three h0 h1 (by omega)] at h ⊢
      subst h
      exact split_three r _ _ _ w h0 h1 (by omega) rfl rfl rfl
  · rw [parts_no (by omega)] at h ⊢
    subst h
    refine (split_no r w (by omega)).mono ?_
    rintro e w' ⟨rfl, rfl⟩
    exact ⟨none, 0, rfl, Nat.le_refl _, Rd.nil, fun _ => rfl, Bel.refl _⟩
theorem rparts_gives (r : Int) (n : Nat) (w : World) (h : (parts r).length = n) : Calls Try.prog 11 #[.int .i32 r] w (Gives w (parts r) n) := by
  by_cases h0 : 44032 ≤ r ∧ r < 55204
  · obtain ⟨h0, h1⟩ := h0
    by_cases ht : (r - 44032) % 28 = 0
    · rw [parts_two h0 h1 ht] at h ⊢
      subst h
      exact rparts_two r _ _ w h0 h1 ht rfl rfl
    · rw [parts_three h0 h1 (by omega)] at h ⊢
      subst h
      exact rparts_three r _ _ _ w h0 h1 (by omega) rfl rfl rfl
  · rw [parts_no (by omega)] at h ⊢
    subst h
    refine (rparts_no r w (by omega)).mono ?_
    rintro e w' ⟨rfl, rfl⟩
    exact ⟨none, 0, rfl, Nat.le_refl _, Rd.nil, fun _ => rfl, Bel.refl _⟩
theorem parts_len (r : Int) : (parts r).length ≤ 3 ∧ ((0 : Int) < ((parts r).length : Int) ↔ (44032 ≤ r ∧ r < 55204)) := by
  by_cases h0 : 44032 ≤ r ∧ r < 55204
  · obtain ⟨h0, h1⟩ := h0
    by_cases ht : (r - 44032) % 28 = 0
    · rw [parts_two h0 h1 ht]; simp; omega
    · rw [parts_three h0 h1 (by omega)]; simp; omega
  · rw [parts_no (by omega)]; simp; omega

set_option maxRecDepth 100000 in
set_option maxHeartbeats 2000000 in
theorem walk_splits (r s : Int) (w : World) (hs : -2147483648 ≤ s ∧ s ≤ 2147483647) :
    Calls Try.prog 3 #[.int .i32 r, .int .i32 s] w fun e w' => e = .returned (.bool true) ∧ Bel w w' := by
  obtain ⟨x, ok, hJ⟩ := joi_any r s
  obtain ⟨n, hn⟩ : ∃ n, (parts r).length = n := ⟨_, rfl⟩
  obtain ⟨hn3, hp⟩ := parts_len r
  rw [hn] at hn3 hp
  obtain ⟨b, hb⟩ : ∃ b, decide (44032 ≤ r ∧ r < 55204) = b := ⟨_, rfl⟩
  have H1 := Lib.hid (fun w => join_is r s x ok w hJ)
  have H2 := Lib.hid (fun w => rsyl_is r s x ok w hs hJ)
  have H3 := Lib.hid (fun w => split_gives r n w hn)
  have H4 := Lib.hid (fun w => rparts_gives r n w hn)
  have H5 := Lib.hid (fun w => syl_is r b w hb)
  have HN := Lib.hid hn
  have q : (decide ((0 : Int) < (n : Int))) = b := by
    rw [← hb]; exact decide_eq_decide.2 hp
  have HQ := Lib.hid q
  have qx : (x == x) = true := by simp
  have qo : (ok == ok) = true := by simp
  clear hJ hn hs hb q hp
  go_enter Try.func3, Try.ntmps3
  go_wp2_with fail
  with_reducible refine (H1.out _).mono ?_
  rintro e w1 ⟨rfl, rfl⟩
  go_wp2_with fail
  with_reducible refine (H2.out _).mono ?_
  rintro e w2 ⟨rfl, hb2⟩
  go_wp2_with fail
  with_reducible refine (H3.out _).mono ?_
  rintro e w3 ⟨A3, cap3, rfl, hcap3, hrd3, hnil3, hb3⟩
  have HR3 := Lib.hid hrd3
  clear hrd3 hnil3
  go_wp2_with fail
  with_reducible refine (answers_is _).mono ?_
  rintro e w4 ⟨rfl, hb4⟩
  go_wp2_with fail
  with_reducible refine (H4.out _).mono ?_
  rintro e w5 ⟨A5, cap5, rfl, hcap5, hrd5, hnil5, hb5⟩
  have HR5 := Lib.hid hrd5
  clear hrd5 hnil5
  go_wp2_with fail
  with_reducible refine (runes_is A3 A5 n n cap3 cap5 (parts r) (parts r) _ _ true w5 ((HR3.out.bel hb4).bel hb5) HR5.out HN.out HN.out (by omega) (by simp)).mono ?_
  rintro e w6 ⟨rfl, q, rfl⟩
  have hb6 : Bel w (w5.drewN q) := (((hb2.trans hb3).trans hb4).trans hb5).drewN q
  by_cases h0 : (0 : Int) < (n : Int)
  · obtain rfl : b = true := by rw [← HQ.out]; exact decide_eq_true h0
    go_wp2_with (go_at_call 12; (with_reducible refine (H5.out _).mono ?_); rintro e w' ⟨rfl, rfl⟩)
    go_ret
    exact ⟨ret_bool (by simp; omega), hb6⟩
  · obtain rfl : b = false := by rw [← HQ.out]; exact decide_eq_false h0
    go_wp2_with (go_at_call 12; (with_reducible refine (H5.out _).mono ?_); rintro e w' ⟨rfl, rfl⟩)
    go_ret
    exact ⟨ret_bool (by simp; omega), hb6⟩
end Go.Proofs.Ytalabobiaahppaa.U
