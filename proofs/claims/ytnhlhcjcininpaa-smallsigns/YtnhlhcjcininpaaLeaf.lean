/- What small.sign, raised, greek and Rune answer, of the three sets and any number: what the chapter tells. No condition. -/
import Derived.Test.YtnhlhcjcininpaaChecked
import Derived.WalkKit
import Derived.Below
import Derived.Lib.Hide
import Derived.OpenShut
namespace Go.Proofs.Ytnhlhcjcininpaa.U
open Go.RowKit

/-- A sign that stands behind the zero z. -/
def sg (z n : Int) : Int × Bool :=
  if 48 ≤ n ∧ n ≤ 57 then (z + (n - 48), true)
  else if n = 43 then (z + 10, true)
  else if n = 45 then (z + 11, true)
  else if n = 40 then (z + 13, true)
  else if n = 41 then (z + 14, true)
  else (0, false)

/-- A superscript. -/
def up (n : Int) : Int × Bool :=
  if n = 49 then (185, true) else if n = 50 then (178, true) else if n = 51 then (179, true) else sg 8304 n

/-- A Greek symbol. -/
def gr (n : Int) : Int × Bool :=
  if n = 97 then (945, true) else if n = 98 then (946, true) else if n = 99 then (947, true) else (0, false)

/-- Each set's. -/
def ru (s n : Int) : Int × Bool := if s = 10 then sg 8320 n else if s = 11 then up n else gr n

theorem ret_pair {a : Int} {b : Bool} {p : Int × Bool} (h : p = (a, b)) : Ending.returned (.tuple #[.int .i32 a, .bool b]) = .returned (.tuple #[.int .i32 p.1, .bool p.2]) := by rw [h]

set_option maxHeartbeats 1000000 in
theorem sign_sub (n : Int) (w : World) : Calls Try.prog 7 #[.int .i32 8320, .int .i64 n] w fun e w' => e = .returned (.tuple #[.int .i32 (sg 8320 n).1, .bool (sg 8320 n).2]) ∧ w' = w := by
  go_enter Try.func7, Try.ntmps7
  go_wp2
  all_goals go_ret2
  all_goals refine ⟨ret_pair ?_, rfl⟩
  all_goals simp only [beq_iff_eq, beq_eq_false_iff_ne, ne_eq] at *
  all_goals (unfold sg; (repeat' split) <;> first | rfl | omega | (subst_vars; decide +kernel))

set_option maxHeartbeats 1000000 in
theorem sign_sup (n : Int) (w : World) : Calls Try.prog 7 #[.int .i32 8304, .int .i64 n] w fun e w' => e = .returned (.tuple #[.int .i32 (sg 8304 n).1, .bool (sg 8304 n).2]) ∧ w' = w := by
  go_enter Try.func7, Try.ntmps7
  go_wp2
  all_goals go_ret2
  all_goals refine ⟨ret_pair ?_, rfl⟩
  all_goals simp only [beq_iff_eq, beq_eq_false_iff_ne, ne_eq] at *
  all_goals (unfold sg; (repeat' split) <;> first | rfl | omega | (subst_vars; decide +kernel))

theorem raised_any (n : Int) (w : World) : Calls Try.prog 8 #[.int .i64 n] w fun e w' => e = .returned (.tuple #[.int .i32 (up n).1, .bool (up n).2]) ∧ w' = w := by
  obtain ⟨p, hp⟩ : ∃ p, sg 8304 n = p := ⟨_, rfl⟩
  have hs : ∀ w, Calls Try.prog 7 #[.int .i32 8304, .int .i64 n] w fun e w' => e = .returned (.tuple #[.int .i32 p.1, .bool p.2]) ∧ w' = w := fun w => by have := sign_sup n w; rwa [hp] at this
  have HS := Lib.hid hs
  have HP := Lib.hid hp
  clear hs hp
  go_enter Try.func8, Try.ntmps8
  go_wp2_with (go_at_call 7; (with_reducible refine (HS.out _).mono ?_); rintro e w' ⟨rfl, rfl⟩)
  all_goals go_ret2
  all_goals refine ⟨ret_pair ?_, rfl⟩
  all_goals simp only [beq_iff_eq, beq_eq_false_iff_ne, ne_eq] at *
  all_goals (unfold up; (repeat' split) <;> first | rfl | omega | exact HP.out)

theorem greek_any (n : Int) (w : World) : Calls Try.prog 9 #[.int .i64 n] w fun e w' => e = .returned (.tuple #[.int .i32 (gr n).1, .bool (gr n).2]) ∧ w' = w := by
  go_enter Try.func9, Try.ntmps9
  go_wp2
  all_goals go_ret2
  all_goals refine ⟨ret_pair ?_, rfl⟩
  all_goals simp only [beq_iff_eq, beq_eq_false_iff_ne, ne_eq] at *
  all_goals (unfold gr; (repeat' split) <;> first | rfl | omega)

theorem rune_is (s n r : Int) (b : Bool) (hs : s = 10 ∨ s = 11 ∨ s = 12) (h : ru s n = (r, b)) (w : World) : Calls Try.prog 5 #[.int .i64 s, .int .i64 n] w fun e w' => e = .returned (.tuple #[.int .i32 r, .bool b]) ∧ w' = w := by
  obtain rfl | rfl | rfl := hs
  · have h1 : sg 8320 n = (r, b) := h
    have HS : RowKit.Hid (∀ w, Calls Try.prog 7 #[.int .i32 8320, .int .i64 n] w fun e w' => e = .returned (.tuple #[.int .i32 r, .bool b]) ∧ w' = w) := Lib.hid fun w => by have := sign_sub n w; rwa [h1] at this
    clear h h1
    go_enter Try.func5, Try.ntmps5
    go_wp2_with (go_at_call 7; (with_reducible refine (HS.out _).mono ?_); rintro e w' ⟨rfl, rfl⟩)
    go_ret2
    exact ⟨rfl, rfl⟩
  · have h1 : up n = (r, b) := h
    have HS : RowKit.Hid (∀ w, Calls Try.prog 8 #[.int .i64 n] w fun e w' => e = .returned (.tuple #[.int .i32 r, .bool b]) ∧ w' = w) := Lib.hid fun w => by have := raised_any n w; rwa [h1] at this
    clear h h1
    go_enter Try.func5, Try.ntmps5
    go_wp2_with (go_at_call 8; (with_reducible refine (HS.out _).mono ?_); rintro e w' ⟨rfl, rfl⟩)
    go_ret2
    exact ⟨rfl, rfl⟩
  · have h1 : gr n = (r, b) := h
    have HS : RowKit.Hid (∀ w, Calls Try.prog 9 #[.int .i64 n] w fun e w' => e = .returned (.tuple #[.int .i32 r, .bool b]) ∧ w' = w) := Lib.hid fun w => by have := greek_any n w; rwa [h1] at this
    clear h h1
    go_enter Try.func5, Try.ntmps5
    go_wp2_with (go_at_call 9; (with_reducible refine (HS.out _).mono ?_); rintro e w' ⟨rfl, rfl⟩)
    go_ret2
    exact ⟨rfl, rfl⟩

theorem answers_any (w : World) : Calls Try.prog 6 #[] w fun e w' => e = .returned (.bool true) ∧ w' = w := by
  go_enter Try.func6, Try.ntmps6
  go_wp2_with (go_at_call 5; (with_reducible refine (rune_is 10 50 8322 true (Or.inl rfl) (by decide +kernel) _).mono ?_); rintro e w' ⟨rfl, rfl⟩)
  go_ret
  exact ⟨rfl, rfl⟩

theorem fit8 {x : Int} (h : (Lit.int .u8 x).wf = true) : 0 ≤ x ∧ x < 256 := by
  have := bounds_u8 h
  omega
end Go.Proofs.Ytnhlhcjcininpaa.U
