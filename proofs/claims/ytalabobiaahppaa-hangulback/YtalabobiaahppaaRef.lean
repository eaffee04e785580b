/- What Parts and Syllable of the reference answer, and 'answers'. No condition but that characters are 32 bits. -/
import Derived.Test.YtalabobiaahppaaSplit
namespace Go.Proofs.Ytalabobiaahppaa.U
open Go.RowKit
set_option linter.unusedVariables false

theorem rparts_no (r : Int) (w : World) (h : r < 44032 ∨ 55204 ≤ r) : Calls Try.prog 11 #[.int .i32 r] w fun e w' => e = .returned (.slice none 0 0) ∧ w = w' := by
  rcases h with h | h
  · go_enter Try.func11, Try.ntmps11
    go_wp2
    go_ret
    exact ⟨rfl, rfl⟩
  · have h' : ¬ r < 44032 := by omega
    go_enter Try.func11, Try.ntmps11
    go_wp2
    go_ret
    exact ⟨rfl, rfl⟩

theorem rparts_two (r a b : Int) (w : World) (h0 : 44032 ≤ r) (h1 : r < 55204) (h : (r - 44032) % 28 = 0) (ha : 4352 + (r - 44032) / 588 = a) (hb : 4449 + (r - 44032) % 588 / 28 = b) :
    Calls Try.prog 11 #[.int .i32 r] w (Gives w [a, b] 2) := by
  have q0 : ¬ r < 44032 := by omega
  have q1 : ¬ 55204 ≤ r := by omega
  have ht : ¬ 0 < (r - 44032) % 28 := by omega
  have HA := Lib.hid ha
  have HB := Lib.hid hb
  clear h ha hb
  go_enter Try.func11, Try.ntmps11
  go_wp2
  go_ret
  rw [HA.out, HB.out]
  exact gives_of rfl (Own.lit w 21 .i32 rfl rfl (by omega)) ((Bel.refl w).alloc _)

set_option maxHeartbeats 1000000 in
theorem rparts_three (r a b c : Int) (w : World) (h0 : 44032 ≤ r) (h1 : r < 55204) (h : 0 < (r - 44032) % 28) (ha : 4352 + (r - 44032) / 588 = a) (hb : 4449 + (r - 44032) % 588 / 28 = b) (hc : 4519 + (r - 44032) % 28 = c) :
    Calls Try.prog 11 #[.int .i32 r] w (Gives w [a, b, c] 3) := by
  obtain ⟨i0, hi0, hz0, hz1, hz2⟩ := info_parts info21
  have q0 : ¬ r < 44032 := by omega
  have q1 : ¬ 55204 ≤ r := by omega
  have HR := Lib.hid (rd_lit_at (w := w.alloc (.cells #[.int .i32 (4352 + (r - 44032) / 588), .int .i32 (4449 + (r - 44032) % 588 / 28)] 21)) (cs := #[.int .i32 (4519 + (r - 44032) % 28)]) (t := 21) (k := .i32) (l := [c]) (n := w.heap.size + 1) (by simp) (by simp [hc]))
  have HO := Lib.hid ((Own.lit w 21 .i32 (cs := #[.int .i32 (4352 + (r - 44032) / 588), .int .i32 (4449 + (r - 44032) % 588 / 28)]) (l := [a, b]) (n := 2) (by simp [ha, hb]) rfl (by omega)).keep ((Bel.refl _).alloc (.cells #[.int .i32 (4519 + (r - 44032) % 28)] 21)))
  clear ha hb hc
  go_enter Try.func11, Try.ntmps11
  go_wp2_with (first
    | (at_builtin; refine wpl_append (by rfl) (.tmp 27) (.tmp 32) 24 rfl Try.underlying24 hi0 hz0 hz1 hz2 rfl (by omega) HO.out rfl HR.out rfl rfl (fun e => by cases e) (by simp) (by simp; omega) ?_; intro v2 w2 hown2 hb2)
    | fail)
  go_ret
  exact gives_of rfl hown2 (Below.trans (((Bel.refl w).alloc _).alloc _) hb2)

/-- How many parts, nothing more. -/
theorem rparts_len (r : Int) (n : Nat) (w : World) (h : (parts r).length = n) : Calls Try.prog 11 #[.int .i32 r] w fun e w' => ∃ A cap, e = .returned (.slice A n cap) ∧ Bel w w' := by
  by_cases h0 : 44032 ≤ r ∧ r < 55204
  · obtain ⟨h0, h1⟩ := h0
    by_cases ht : (r - 44032) % 28 = 0
    · rw [parts_two h0 h1 ht] at h
      subst h
      refine (rparts_two r _ _ w h0 h1 ht rfl rfl).mono ?_
      rintro e w' ⟨A, cap, rfl, _, _, _, hb⟩
      exact ⟨A, cap, rfl, hb⟩
    · rw [parts_three h0 h1 (by omega)] at h
      subst h
      refine (rparts_three r _ _ _ w h0 h1 (by omega) rfl rfl rfl).mono ?_
      rintro e w' ⟨A, cap, rfl, _, _, _, hb⟩
      exact ⟨A, cap, rfl, hb⟩
  · rw [parts_no (by omega)] at h
    subst h
    refine (rparts_no r w (by omega)).mono ?_
    rintro e w' ⟨rfl, rfl⟩
    exact ⟨none, 0, rfl, Bel.refl _⟩

theorem two_iff (r : Int) : (parts r).length = 2 ↔ (44032 ≤ r ∧ r < 55204 ∧ (r - 44032) % 28 = 0) := by
  by_cases h0 : 44032 ≤ r ∧ r < 55204
  · obtain ⟨h0, h1⟩ := h0
    by_cases ht : (r - 44032) % 28 = 0
    · rw [parts_two h0 h1 ht]; simp; omega
    · rw [parts_three h0 h1 (by omega)]; simp; omega
  · rw [parts_no (by omega)]; simp; omega

def RJoined (w : World) (x : Int) (ok : Bool) (e : Ending) (w' : World) : Prop := e = .returned (.tuple #[.int .i32 x, .bool ok]) ∧ Bel w w'
set_option maxHeartbeats 1000000 in
theorem rsyl_is (r s x : Int) (ok : Bool) (w : World) (hs : -2147483648 ≤ s ∧ s ≤ 2147483647) (h : Joi r s x ok) : Calls Try.prog 7 #[.int .i32 r, .int .i32 s] w (RJoined w x ok) := by
  obtain ⟨n, hn⟩ : ∃ n, (parts r).length = n := ⟨_, rfl⟩
  have hiff := two_iff r
  rw [hn] at hiff
  have HN := Lib.hid hn
  clear hn
  rcases h with ⟨⟨h1, h2, h3, h4⟩, rfl, rfl⟩ | ⟨⟨h1, h2, h3, h4, h5⟩, rfl, rfl⟩ | ⟨hn1, hn2, rfl, rfl⟩
  · have q1 : r ≤ 4370 := by omega
    have q2 : s ≤ 4469 := by omega
    clear hiff
    go_enter Try.func7, Try.ntmps7
    go_wp2
    go_ret2
    exact ⟨rfl, Bel.refl _⟩
  · obtain rfl : n = 2 := by omega
    have q0 : 4352 ≤ r := by omega
    have q1 : ¬ r ≤ 4370 := by omega
    have q2 : 4520 ≤ s := by omega
    have q3 : s ≤ 4546 := by omega
    have q4 : r + s - 4519 = r + (s - 4519) := by omega
    have HQ := Lib.hid q4
    clear q4 hiff h3
    go_enter Try.func7, Try.ntmps7
    go_wp2_with (go_at_call 11; (with_reducible refine (rparts_len _ 2 _ HN.out).mono ?_); rintro e w' ⟨A, cap, rfl, hb⟩)
    go_ret2
    exact ⟨by rw [HQ.out]; rfl, hb⟩
  · unfold isLV at hn1
    unfold isST at hn2
    have e12 : ¬ (4352 ≤ r ∧ r ≤ 4370 ∧ 4449 ≤ s ∧ s ≤ 4469) := by omega
    have e34 : ¬ (n = 2 ∧ 4520 ≤ s ∧ s ≤ 4546) := by omega
    have HE := Lib.hid e12
    clear e12 hn1 hn2 hiff
    by_cases hq : n = 2
    · have HF := Lib.hid (show ¬ (4520 ≤ s ∧ s ≤ 4546) from fun h => e34 ⟨hq, h⟩)
      clear e34
      subst hq
      go_enter Try.func7, Try.ntmps7
      go_wp2_with (go_at_call 11; (with_reducible refine (rparts_len _ 2 _ HN.out).mono ?_); rintro e w' ⟨A, cap, rfl, hb⟩)
      all_goals first
        | (go_ret2; exact ⟨rfl, hb⟩)
        | (exfalso; have := HE.out; omega)
        | (exfalso; have := HF.out; omega)
    · have hq' : ((n : Int) == 2) = false := by simp; omega
      clear e34
      go_enter Try.func7, Try.ntmps7
      go_wp2_with (go_at_call 11; (with_reducible refine (rparts_len _ n _ HN.out).mono ?_); rintro e w' ⟨A, cap, rfl, hb⟩)
      all_goals first
        | (go_ret2; exact ⟨rfl, hb⟩)
        | (exfalso; have := HE.out; omega)
end Go.Proofs.Ytalabobiaahppaa.U
