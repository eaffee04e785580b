/- What hangul.Join and what it calls answer. No condition. -/
import Derived.Test.YtfgpgmfajjakpaaDoorHang
import Derived.Test.YtfgpgmfajjakpaaDoorPairJ
namespace Go.Proofs.YtfgpgmfajjakpaaDoor.U
open Go.RowKit
set_option linter.unusedVariables false

theorem lead_is (r : Int) (b : Bool) (w : World) (h : decide (4352 ≤ r ∧ r < 4371) = b) : Calls Tryd.prog 45 #[.int .i32 r] w fun e w' => e = .returned (.bool b) ∧ w = w' := by
  subst h
  go_enter Tryd.func45, Tryd.ntmps45
  go_wp2
  all_goals go_ret
  all_goals refine ⟨ret_bool ?_, rfl⟩
  all_goals (rw [Bool.eq_iff_iff]; simp; try omega)
theorem vowel_is (r : Int) (b : Bool) (w : World) (h : decide (4449 ≤ r ∧ r < 4470) = b) : Calls Tryd.prog 46 #[.int .i32 r] w fun e w' => e = .returned (.bool b) ∧ w = w' := by
  subst h
  go_enter Tryd.func46, Tryd.ntmps46
  go_wp2
  all_goals go_ret
  all_goals refine ⟨ret_bool ?_, rfl⟩
  all_goals (rw [Bool.eq_iff_iff]; simp; try omega)
theorem trail_is (r : Int) (b : Bool) (w : World) (h : decide (4519 < r ∧ r < 4547) = b) : Calls Tryd.prog 48 #[.int .i32 r] w fun e w' => e = .returned (.bool b) ∧ w = w' := by
  subst h
  go_enter Tryd.func48, Tryd.ntmps48
  go_wp2
  all_goals go_ret
  all_goals refine ⟨ret_bool ?_, rfl⟩
  all_goals (rw [Bool.eq_iff_iff]; simp; try omega)
theorem open_is (r : Int) (b : Bool) (w : World) (h : decide (44032 ≤ r ∧ r < 55204 ∧ (r - 44032) % 28 = 0) = b) : Calls Tryd.prog 47 #[.int .i32 r] w fun e w' => e = .returned (.bool b) ∧ w = w' := by
  subst h
  by_cases h : 44032 ≤ r ∧ r < 55204
  · have H := Lib.hid (decide_eq_true h)
    obtain ⟨h0, h1⟩ := h
    go_enter Tryd.func47, Tryd.ntmps47
    go_wp2_with (go_at_call 51; (with_reducible refine (syl_is _ true _ H.out).mono ?_); rintro e w' ⟨rfl, rfl⟩)
    all_goals go_ret
    all_goals refine ⟨ret_bool ?_, rfl⟩
    all_goals (rw [Bool.eq_iff_iff]; simp; try omega)
  · have H := Lib.hid (decide_eq_false h)
    go_enter Tryd.func47, Tryd.ntmps47
    go_wp2_with (go_at_call 51; (with_reducible refine (syl_is _ false _ H.out).mono ?_); rintro e w' ⟨rfl, rfl⟩)
    all_goals go_ret
    all_goals refine ⟨ret_bool ?_, rfl⟩
    all_goals (rw [Bool.eq_iff_iff]; simp; try omega)

/-- Join: nothing is made, nothing is changed. -/
def Joined (w : World) (x : Int) (ok : Bool) (e : Ending) (w' : World) : Prop := e = .returned (.tuple #[.int .i32 x, .bool ok]) ∧ w = w'
theorem hjoin_is (r s x : Int) (ok : Bool) (w : World) (h : HJoi r s x ok) : Calls Tryd.prog 30 #[.int .i32 r, .int .i32 s] w (Joined w x ok) := by
  rcases h with ⟨⟨h1, h2, h3, h4⟩, rfl, rfl⟩ | ⟨⟨h1, h2, h3, h4, h5⟩, rfl, rfl⟩ | ⟨hn1, hn2, rfl, rfl⟩
  · have H1 := Lib.hid (decide_eq_true (p := 4352 ≤ r ∧ r < 4371) ⟨h1, h2⟩)
    have H2 := Lib.hid (decide_eq_true (p := 4449 ≤ s ∧ s < 4470) ⟨h3, h4⟩)
    go_enter Tryd.func30, Tryd.ntmps30
    go_wp2_with (first
      | (go_at_call 45; (with_reducible refine (lead_is _ true _ H1.out).mono ?_); rintro e w' ⟨rfl, rfl⟩)
      | (go_at_call 46; (with_reducible refine (vowel_is _ true _ H2.out).mono ?_); rintro e w' ⟨rfl, rfl⟩))
    go_ret2
    exact ⟨rfl, rfl⟩
  · have H1 := Lib.hid (decide_eq_false (p := 4352 ≤ r ∧ r < 4371) (by omega))
    have H2 := Lib.hid (decide_eq_true (p := 44032 ≤ r ∧ r < 55204 ∧ (r - 44032) % 28 = 0) ⟨h1, h2, h3⟩)
    have H3 := Lib.hid (decide_eq_true (p := 4519 < s ∧ s < 4547) ⟨h4, h5⟩)
    go_enter Tryd.func30, Tryd.ntmps30
    go_wp2_with (first
      | (go_at_call 45; (with_reducible refine (lead_is _ false _ H1.out).mono ?_); rintro e w' ⟨rfl, rfl⟩)
      | (go_at_call 47; (with_reducible refine (open_is _ true _ H2.out).mono ?_); rintro e w' ⟨rfl, rfl⟩)
      | (go_at_call 48; (with_reducible refine (trail_is _ true _ H3.out).mono ?_); rintro e w' ⟨rfl, rfl⟩))
    go_ret2
    exact ⟨rfl, rfl⟩
  · obtain ⟨b1, hb1⟩ : ∃ b, decide (4352 ≤ r ∧ r < 4371) = b := ⟨_, rfl⟩
    obtain ⟨b2, hb2⟩ : ∃ b, decide (4449 ≤ s ∧ s < 4470) = b := ⟨_, rfl⟩
    obtain ⟨b3, hb3⟩ : ∃ b, decide (44032 ≤ r ∧ r < 55204 ∧ (r - 44032) % 28 = 0) = b := ⟨_, rfl⟩
    obtain ⟨b4, hb4⟩ : ∃ b, decide (4519 < s ∧ s < 4547) = b := ⟨_, rfl⟩
    have e12 : ¬ (b1 = true ∧ b2 = true) := by
      rintro ⟨rfl, rfl⟩
      have a := of_decide_eq_true hb1
      have b := of_decide_eq_true hb2
      exact hn1 ⟨a.1, a.2, b.1, b.2⟩
    have e34 : ¬ (b3 = true ∧ b4 = true) := by
      rintro ⟨rfl, rfl⟩
      have a := of_decide_eq_true hb3
      have b := of_decide_eq_true hb4
      exact hn2 ⟨a.1, a.2.1, a.2.2, b.1, b.2⟩
    have H1 := Lib.hid hb1
    have H2 := Lib.hid hb2
    have H3 := Lib.hid hb3
    have H4 := Lib.hid hb4
    clear hb1 hb2 hb3 hb4 hn1 hn2
    cases b1 <;> cases b2 <;> cases b3 <;> cases b4 <;> first | (exfalso; simp at e12; done) | (exfalso; simp at e34; done) | skip
    all_goals clear e12 e34
    all_goals go_enter Tryd.func30, Tryd.ntmps30
    all_goals (go_wp2_with (first
      | (go_at_call 45; (with_reducible refine (lead_is _ _ _ H1.out).mono ?_); rintro e w' ⟨rfl, rfl⟩)
      | (go_at_call 46; (with_reducible refine (vowel_is _ _ _ H2.out).mono ?_); rintro e w' ⟨rfl, rfl⟩)
      | (go_at_call 47; (with_reducible refine (open_is _ _ _ H3.out).mono ?_); rintro e w' ⟨rfl, rfl⟩)
      | (go_at_call 48; (with_reducible refine (trail_is _ _ _ H4.out).mono ?_); rintro e w' ⟨rfl, rfl⟩)))
    all_goals go_ret2
    all_goals exact ⟨rfl, rfl⟩
end Go.Proofs.YtfgpgmfajjakpaaDoor.U
