/- What a line's own methods, the table's own methods and package cmp's functions answer. -/
import Derived.Test.YtfgpgmfajjakpaaDoorParse
import Derived.Test.YtfgpgmfajjakpaaDoorText
namespace Go.Proofs.YtfgpgmfajjakpaaDoor.U
open Go.RowKit
set_option linter.unusedVariables false

theorem whole_is (L : ByteArray) (t : Row3) (w : World) (h : Ln L t) (h16 : in16 t = true) : Calls Tryd.prog 44 #[.string L] w (RuneIs w t.1) := by
  obtain ⟨hs, h1, _, _⟩ := h
  have g := in16_true.1 h16
  have HP := Lib.hid (fun w => number_is (L.extract 1 5) t.1 w h1 ⟨g.1, g.2.1⟩)
  generalize t.1 = v at HP ⊢
  have q : (5 : Int) ≤ (L.size : Int) := by omega
  clear h1 g h16 hs
  go_enter Tryd.func44, Tryd.ntmps44
  go_wp2_with (go_at_call 60; (with_reducible refine (HP.out _).mono ?_); rintro e w' ⟨rfl, hb⟩)
  go_ret
  exact ⟨rfl, hb⟩
theorem first_is (L : ByteArray) (t : Row3) (w : World) (h : Ln L t) (h16 : in16 t = true) : Calls Tryd.prog 42 #[.string L] w (RuneIs w t.2.1) := by
  obtain ⟨hs, _, h1, _⟩ := h
  have g := in16_true.1 h16
  have HP := Lib.hid (fun w => number_is (L.extract 6 10) t.2.1 w h1 ⟨g.2.2.1, g.2.2.2.1⟩)
  generalize t.2.1 = v at HP ⊢
  have q : (10 : Int) ≤ (L.size : Int) := by omega
  clear h1 g h16 hs
  go_enter Tryd.func42, Tryd.ntmps42
  go_wp2_with (go_at_call 60; (with_reducible refine (HP.out _).mono ?_); rintro e w' ⟨rfl, hb⟩)
  go_ret
  exact ⟨rfl, hb⟩
theorem second_is (L : ByteArray) (t : Row3) (w : World) (h : Ln L t) (h16 : in16 t = true) : Calls Tryd.prog 43 #[.string L] w (RuneIs w t.2.2) := by
  obtain ⟨hs, _, _, h1⟩ := h
  have g := in16_true.1 h16
  have HP := Lib.hid (fun w => number_is (L.extract 11 15) t.2.2 w h1 ⟨g.2.2.2.2.1, g.2.2.2.2.2⟩)
  generalize t.2.2 = v at HP ⊢
  have q : (15 : Int) ≤ (L.size : Int) := by omega
  clear h1 g h16 hs
  go_enter Tryd.func43, Tryd.ntmps43
  go_wp2_with (go_at_call 60; (with_reducible refine (HP.out _).mono ?_); rintro e w' ⟨rfl, hb⟩)
  go_ret
  exact ⟨rfl, hb⟩
theorem parts_is (L : ByteArray) (t : Row3) (n : Int) (w : World) (h : Ln L t) (h16 : in16 t = true) (hn : n = if t.2.2 = 0 then 1 else 2) : Calls Tryd.prog 50 #[.string L] w (IntIs w n) := by
  have HP := Lib.hid (second_is L t w h h16)
  generalize t.2.2 = v at HP hn
  clear h16 h
  by_cases hv : v = 0
  · subst hv
    rw [if_pos rfl] at hn
    subst hn
    go_enter Tryd.func50, Tryd.ntmps50
    go_wp2_with (go_at_call 43; (with_reducible refine HP.out.mono ?_); rintro e w' ⟨rfl, hb⟩)
    go_ret
    exact ⟨rfl, hb⟩
  · rw [if_neg hv] at hn
    subst hn
    have q : (v == 0) = false := by simpa using hv
    go_enter Tryd.func50, Tryd.ntmps50
    go_wp2_with (go_at_call 43; (with_reducible refine HP.out.mono ?_); rintro e w' ⟨rfl, hb⟩)
    go_ret
    exact ⟨rfl, hb⟩

/-- Which is greater. -/
def sgn (x y : Int) : Int := if x < y then -1 else if y < x then 1 else 0
theorem isnan_is (x : Int) (w : World) : Calls Tryd.prog 59 #[.int .i32 x] w fun e w' => e = .returned (.bool false) ∧ w = w' := by
  go_enter Tryd.func59, Tryd.ntmps59
  go_wp2
  go_ret
  exact ⟨by first | rfl | (refine ret_bool ?_; simp), rfl⟩
theorem compare_is (x y c : Int) (w : World) (hc : sgn x y = c) : Calls Tryd.prog 41 #[.int .i32 x, .int .i32 y] w fun e w' => e = .returned (.int .i64 c) ∧ w = w' := by
  unfold sgn at hc
  rcases Int.lt_trichotomy x y with h | rfl | h
  · rw [if_pos h] at hc
    subst hc
    go_enter Tryd.func41, Tryd.ntmps41
    go_wp2_with (go_at_call 59; refine (isnan_is _ _).mono ?_; rintro e w' ⟨rfl, rfl⟩)
    go_ret
    exact ⟨rfl, rfl⟩
  · rw [if_neg (by omega), if_neg (by omega)] at hc
    subst hc
    go_enter Tryd.func41, Tryd.ntmps41
    go_wp2_with (go_at_call 59; refine (isnan_is _ _).mono ?_; rintro e w' ⟨rfl, rfl⟩)
    go_ret
    exact ⟨rfl, rfl⟩
  · rw [if_neg (by omega), if_pos h] at hc
    subst hc
    go_enter Tryd.func41, Tryd.ntmps41
    go_wp2_with (go_at_call 59; refine (isnan_is _ _).mono ?_; rintro e w' ⟨rfl, rfl⟩)
    go_ret
    exact ⟨rfl, rfl⟩

theorem at_is (S : ByteArray) (n i : Nat) (w : World) (hS : S.size = n * 15) (hi : i < n) (hn : n < 1000) :
    Calls Tryd.prog 58 #[.string S, .int .i64 i] w fun e w' => e = .returned (.string (S.extract (i * 15) (i * 15 + 15))) ∧ w = w' := by
  have q0 : (0 : Int) ≤ (i : Int) * 15 := by omega
  have q1 : (i : Int) * 15 ≤ ((i : Int) + 1) * 15 := by omega
  have q2 : ((i : Int) + 1) * 15 ≤ (S.size : Int) := by omega
  have q3 : (i : Int) < 1000 := by omega
  have hsl : ∀ wx : World, (Instr.slice 61 (.string S) (some (.int .i64 ((i : Int) * 15))) (some (.int .i64 (((i : Int) + 1) * 15))) none).run Tryd.prog wx = .ok (.string (S.extract (i * 15) (i * 15 + 15))) wx := fun wx => by
    rw [run_slice_string wx 61 S .i64 .i64 _ _ Tryd.underlying61 q0 q1 q2]
    congr 3 <;> omega
  clear hS q0 q1 q2
  go_enter Tryd.func58, Tryd.ntmps58
  go_wp2
  go_ret
  exact ⟨rfl, rfl⟩
theorem count_is (S : ByteArray) (n : Nat) (w : World) (hS : S.size = n * 15) (hn : n < 1000) :
    Calls Tryd.prog 56 #[.string S] w fun e w' => e = .returned (.int .i64 n) ∧ w = w' := by
  have q0 : (S.size : Int).tdiv 15 = (n : Int) := by rw [Int.tdiv_eq_ediv_of_nonneg (by omega)]; omega
  have q1 : (S.size : Int) < 15000 := by omega
  go_enter Tryd.func56, Tryd.ntmps56
  go_wp2
  go_ret
  exact ⟨by first | rfl | exact ret_int (by first | exact q0 | omega), rfl⟩
end Go.Proofs.YtfgpgmfajjakpaaDoor.U
