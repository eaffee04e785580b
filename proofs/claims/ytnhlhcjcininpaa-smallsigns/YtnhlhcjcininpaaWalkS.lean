/- SmallSigns answers true at every two numbers; nothing that was there is changed. -/
import Derived.Test.YtnhlhcjcininpaaLeaf
namespace Go.Proofs.Ytnhlhcjcininpaa.U
open Go.RowKit

/-- What the two sets of signs answer: r, and whether it is one. -/
theorem sg_is (z n : Int) (hz : 178 ≤ z) (hz' : z ≤ 8320) : (sg z n = (0, false) ∧ ¬ (48 ≤ n ∧ n ≤ 57) ∧ n ≠ 40 ∧ n ≠ 41 ∧ n ≠ 43 ∧ n ≠ 45) ∨ (∃ r, sg z n = (r, true) ∧ 178 ≤ r ∧ r ≤ 8334 ∧ ((48 ≤ n ∧ n ≤ 57) ∨ n = 40 ∨ n = 41 ∨ n = 43 ∨ n = 45)) := by
  by_cases h : (48 ≤ n ∧ n ≤ 57) ∨ n = 40 ∨ n = 41 ∨ n = 43 ∨ n = 45
  · right
    unfold sg
    rcases h with h | rfl | rfl | rfl | rfl
    · exact ⟨_, if_pos h, by omega, by omega, Or.inl h⟩
    · exact ⟨z + 13, rfl, by omega, by omega, by omega⟩
    · exact ⟨z + 14, rfl, by omega, by omega, by omega⟩
    · exact ⟨z + 10, rfl, by omega, by omega, by omega⟩
    · exact ⟨z + 11, rfl, by omega, by omega, by omega⟩
  · left
    refine ⟨?_, by omega, by omega, by omega, by omega, by omega⟩
    unfold sg
    rw [if_neg (by omega), if_neg (by omega), if_neg (by omega), if_neg (by omega), if_neg (by omega)]

theorem up_is (n : Int) : (up n = (0, false) ∧ ¬ (48 ≤ n ∧ n ≤ 57) ∧ n ≠ 40 ∧ n ≠ 41 ∧ n ≠ 43 ∧ n ≠ 45) ∨ (∃ r, up n = (r, true) ∧ 178 ≤ r ∧ r ≤ 8334 ∧ ((48 ≤ n ∧ n ≤ 57) ∨ n = 40 ∨ n = 41 ∨ n = 43 ∨ n = 45)) := by
  by_cases h : n = 49 ∨ n = 50 ∨ n = 51
  · right
    unfold up
    rcases h with rfl | rfl | rfl
    · exact ⟨185, rfl, by omega, by omega, by omega⟩
    · exact ⟨178, rfl, by omega, by omega, by omega⟩
    · exact ⟨179, rfl, by omega, by omega, by omega⟩
  · have e : up n = sg 8304 n := by unfold up; rw [if_neg (by omega), if_neg (by omega), if_neg (by omega)]
    rw [e]; exact sg_is _ _ (by omega) (by omega)

theorem gr_is (n : Int) : (gr n = (0, false) ∧ ¬ (97 ≤ n ∧ n ≤ 99)) ∨ (∃ r, gr n = (r, true) ∧ 97 ≤ n ∧ n ≤ 99) := by
  by_cases h : n = 97 ∨ n = 98 ∨ n = 99
  · right
    rcases h with rfl | rfl | rfl
    · exact ⟨945, rfl, by omega, by omega⟩
    · exact ⟨946, rfl, by omega, by omega⟩
    · exact ⟨947, rfl, by omega, by omega⟩
  · left
    refine ⟨?_, by omega⟩
    unfold gr; rw [if_neg (by omega), if_neg (by omega), if_neg (by omega)]

/-- Where n stands: the law asks no more. -/
theorem cut_n (n : Int) : (n < 40 ∨ n = 42 ∨ n = 44 ∨ n = 46 ∨ n = 47) ∨ n = 40 ∨ n = 41 ∨ n = 43 ∨ n = 45 ∨ (48 ≤ n ∧ n ≤ 57) ∨ (58 ≤ n ∧ n < 97) ∨ (97 ≤ n ∧ n ≤ 99) ∨ 99 < n := by omega

set_option maxHeartbeats 2000000 in
theorem walk_two (s n c r : Int) (b : Bool) (hn : 0 ≤ n ∧ n < 256) (hc : 0 ≤ c ∧ c < 256) (hs : 10 + c % 3 = s) (hS : s = 10 ∨ s = 11) (hr : ru s n = (r, b))
    (h : (b = false ∧ r = 0 ∧ ¬ (48 ≤ n ∧ n ≤ 57) ∧ n ≠ 40 ∧ n ≠ 41 ∧ n ≠ 43 ∧ n ≠ 45) ∨ (b = true ∧ 178 ≤ r ∧ r ≤ 8334 ∧ ((48 ≤ n ∧ n ≤ 57) ∨ n = 40 ∨ n = 41 ∨ n = 43 ∨ n = 45))) (w : World) :
    Calls Try.prog 4 #[.int .u8 n, .int .u8 c] w fun e w' => e = .returned (.bool true) ∧ w' = w := by
  have HR : RowKit.Hid (∀ w, Calls Try.prog 5 #[.int .i64 s, .int .i64 n] w fun e w' => e = .returned (.tuple #[.int .i32 r, .bool b]) ∧ w' = w) := Lib.hid fun w => rune_is s n r b (hS.imp id Or.inl) hr w
  have h12 : (s == 12) = false := by rw [beq_eq_false_iff_ne]; omega
  clear hr hS
  rcases h with ⟨rfl, rfl, hd, h0, h1, h3, h5⟩ | ⟨rfl, hr0, hr1, hd⟩
  · have e0 : (n == 40) = false := by simpa using h0
    have e1 : (n == 41) = false := by simpa using h1
    have e3 : (n == 43) = false := by simpa using h3
    have e5 : (n == 45) = false := by simpa using h5
    clear h0 h1 h3 h5
    go_enter Try.func4, Try.ntmps4
    go_wp2_with fail
    with_reducible refine (HR.out _).mono ?_
    rintro e w' ⟨rfl, rfl⟩
    go_wp2_with (go_at_call 6; (with_reducible refine (answers_any _).mono ?_); rintro e w' ⟨rfl, rfl⟩)
    all_goals go_ret
    all_goals first
      | exact ⟨rfl, rfl⟩
      | (refine ⟨?_, rfl⟩; show Ending.returned (.bool (!decide (n ≤ 57))) = _; rw [decide_eq_false (by omega)]; rfl)
      | (refine ⟨?_, rfl⟩; show Ending.returned (.bool (!decide (n ≤ 99))) = _; rw [decide_eq_false (by omega)]; rfl)
      | (refine ⟨?_, rfl⟩; show Ending.returned (.bool (decide (n ≤ 57))) = _; rw [decide_eq_true (by omega)])
      | (refine ⟨?_, rfl⟩; show Ending.returned (.bool (decide (n ≤ 99))) = _; rw [decide_eq_true (by omega)])
  · have hr2 : (r == 0) = false := by rw [beq_eq_false_iff_ne]; omega
    rcases hd with ⟨h0, h1⟩ | rfl | rfl | rfl | rfl
    · go_enter Try.func4, Try.ntmps4
      go_wp2_with fail
      with_reducible refine (HR.out _).mono ?_
      rintro e w' ⟨rfl, rfl⟩
      go_wp2_with (go_at_call 6; (with_reducible refine (answers_any _).mono ?_); rintro e w' ⟨rfl, rfl⟩)
      all_goals go_ret
      all_goals first
        | exact ⟨rfl, rfl⟩
        | (refine ⟨?_, rfl⟩; show Ending.returned (.bool (!decide (n ≤ 57))) = _; rw [decide_eq_false (by omega)]; rfl)
        | (refine ⟨?_, rfl⟩; show Ending.returned (.bool (!decide (n ≤ 99))) = _; rw [decide_eq_false (by omega)]; rfl)
        | (refine ⟨?_, rfl⟩; show Ending.returned (.bool (decide (n ≤ 57))) = _; rw [decide_eq_true (by omega)])
        | (refine ⟨?_, rfl⟩; show Ending.returned (.bool (decide (n ≤ 99))) = _; rw [decide_eq_true (by omega)])
    · go_enter Try.func4, Try.ntmps4
      go_wp2_with fail
      with_reducible refine (HR.out _).mono ?_
      rintro e w' ⟨rfl, rfl⟩
      go_wp2_with (go_at_call 6; (with_reducible refine (answers_any _).mono ?_); rintro e w' ⟨rfl, rfl⟩)
      all_goals go_ret
      all_goals exact ⟨rfl, rfl⟩
    · go_enter Try.func4, Try.ntmps4
      go_wp2_with fail
      with_reducible refine (HR.out _).mono ?_
      rintro e w' ⟨rfl, rfl⟩
      go_wp2_with (go_at_call 6; (with_reducible refine (answers_any _).mono ?_); rintro e w' ⟨rfl, rfl⟩)
      all_goals go_ret
      all_goals exact ⟨rfl, rfl⟩
    · go_enter Try.func4, Try.ntmps4
      go_wp2_with fail
      with_reducible refine (HR.out _).mono ?_
      rintro e w' ⟨rfl, rfl⟩
      go_wp2_with (go_at_call 6; (with_reducible refine (answers_any _).mono ?_); rintro e w' ⟨rfl, rfl⟩)
      all_goals go_ret
      all_goals exact ⟨rfl, rfl⟩
    · go_enter Try.func4, Try.ntmps4
      go_wp2_with fail
      with_reducible refine (HR.out _).mono ?_
      rintro e w' ⟨rfl, rfl⟩
      go_wp2_with (go_at_call 6; (with_reducible refine (answers_any _).mono ?_); rintro e w' ⟨rfl, rfl⟩)
      all_goals go_ret
      all_goals exact ⟨rfl, rfl⟩

set_option maxHeartbeats 2000000 in
theorem walk_three (s n c r : Int) (b : Bool) (hn : 0 ≤ n ∧ n < 256) (hc : 0 ≤ c ∧ c < 256) (hs : 10 + c % 3 = s) (hS : s = 12) (hr : ru s n = (r, b))
    (h : (b = false ∧ r = 0 ∧ ¬ (97 ≤ n ∧ n ≤ 99)) ∨ (b = true ∧ 97 ≤ n ∧ n ≤ 99)) (w : World) :
    Calls Try.prog 4 #[.int .u8 n, .int .u8 c] w fun e w' => e = .returned (.bool true) ∧ w' = w := by
  have HR : RowKit.Hid (∀ w, Calls Try.prog 5 #[.int .i64 s, .int .i64 n] w fun e w' => e = .returned (.tuple #[.int .i32 r, .bool b]) ∧ w' = w) := Lib.hid fun w => rune_is s n r b (Or.inr (Or.inr hS)) hr w
  have h12 : (s == 12) = true := by rw [beq_iff_eq]; exact hS
  clear hr hS
  rcases h with ⟨rfl, rfl, hd⟩ | ⟨rfl, hd⟩
  · go_enter Try.func4, Try.ntmps4
    go_wp2_with fail
    with_reducible refine (HR.out _).mono ?_
    rintro e w' ⟨rfl, rfl⟩
    go_wp2_with (go_at_call 6; (with_reducible refine (answers_any _).mono ?_); rintro e w' ⟨rfl, rfl⟩)
    all_goals go_ret
    all_goals first
      | exact ⟨rfl, rfl⟩
      | (refine ⟨?_, rfl⟩; show Ending.returned (.bool (!decide (n ≤ 57))) = _; rw [decide_eq_false (by omega)]; rfl)
      | (refine ⟨?_, rfl⟩; show Ending.returned (.bool (!decide (n ≤ 99))) = _; rw [decide_eq_false (by omega)]; rfl)
      | (refine ⟨?_, rfl⟩; show Ending.returned (.bool (decide (n ≤ 57))) = _; rw [decide_eq_true (by omega)])
      | (refine ⟨?_, rfl⟩; show Ending.returned (.bool (decide (n ≤ 99))) = _; rw [decide_eq_true (by omega)])
  · go_enter Try.func4, Try.ntmps4
    go_wp2_with fail
    with_reducible refine (HR.out _).mono ?_
    rintro e w' ⟨rfl, rfl⟩
    go_wp2_with (go_at_call 6; (with_reducible refine (answers_any _).mono ?_); rintro e w' ⟨rfl, rfl⟩)
    all_goals go_ret
    all_goals first
      | exact ⟨rfl, rfl⟩
      | (refine ⟨?_, rfl⟩; show Ending.returned (.bool (!decide (n ≤ 57))) = _; rw [decide_eq_false (by omega)]; rfl)
      | (refine ⟨?_, rfl⟩; show Ending.returned (.bool (!decide (n ≤ 99))) = _; rw [decide_eq_false (by omega)]; rfl)
      | (refine ⟨?_, rfl⟩; show Ending.returned (.bool (decide (n ≤ 57))) = _; rw [decide_eq_true (by omega)])
      | (refine ⟨?_, rfl⟩; show Ending.returned (.bool (decide (n ≤ 99))) = _; rw [decide_eq_true (by omega)])

theorem walk_signs (n c : Int) (hn : 0 ≤ n ∧ n < 256) (hc : 0 ≤ c ∧ c < 256) (w : World) :
    Calls Try.prog 4 #[.int .u8 n, .int .u8 c] w fun e w' => e = .returned (.bool true) ∧ w' = w := by
  have h3 : c % 3 = 0 ∨ c % 3 = 1 ∨ c % 3 = 2 := by omega
  rcases h3 with h | h | h
  · rcases sg_is 8320 n (by omega) (by omega) with ⟨he, hd⟩ | ⟨r, he, h0, h1, hd⟩
    · exact walk_two 10 n c 0 false hn hc (by omega) (Or.inl rfl) he (Or.inl ⟨rfl, rfl, hd⟩) w
    · exact walk_two 10 n c r true hn hc (by omega) (Or.inl rfl) he (Or.inr ⟨rfl, h0, h1, hd⟩) w
  · rcases up_is n with ⟨he, hd⟩ | ⟨r, he, h0, h1, hd⟩
    · exact walk_two 11 n c 0 false hn hc (by omega) (Or.inr rfl) he (Or.inl ⟨rfl, rfl, hd⟩) w
    · exact walk_two 11 n c r true hn hc (by omega) (Or.inr rfl) he (Or.inr ⟨rfl, h0, h1, hd⟩) w
  · rcases gr_is n with ⟨he, hd⟩ | ⟨r, he, hd⟩
    · exact walk_three 12 n c 0 false hn hc (by omega) rfl he (Or.inl ⟨rfl, rfl, hd⟩) w
    · exact walk_three 12 n c r true hn hc (by omega) rfl he (Or.inr ⟨rfl, hd⟩) w
end Go.Proofs.Ytnhlhcjcininpaa.U
