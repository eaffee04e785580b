/- What the leaves answer: Scalar, Len, announced, head; the reference's Scalar and Len. No condition. -/
import Derived.Test.YtambempcicakgaaChecked
import Derived.Test.YtambempcicakgaaMath
import Derived.WalkKit
import Derived.Below
namespace Go.Proofs.Ytambempcicakgaa.U
open Go.RowKit

theorem ret_bool {a b : Bool} (h : a = b) : Ending.returned (.bool a) = .returned (.bool b) := by rw [h]
theorem ret_int {k : IntKind} {a b : Int} (h : a = b) : Ending.returned (.int k a) = .returned (.int k b) := by rw [h]

theorem scalar_any (r : Int) (w : World) : Calls Try.prog 17 #[.int .i32 r] w fun e w' => e = .returned (.bool (scB r)) ∧ w = w' := by
  go_enter Try.func17, Try.ntmps17
  go_wp2
  all_goals go_ret
  all_goals refine ⟨ret_bool ?_, rfl⟩
  all_goals (rw [Bool.eq_iff_iff, scB_true]; simp; try omega)

theorem rscalar_any (r : Int) (w : World) : Calls Try.prog 18 #[.int .i32 r] w fun e w' => e = .returned (.bool (scB r)) ∧ w = w' := by
  go_enter Try.func18, Try.ntmps18
  go_wp2
  all_goals go_ret
  all_goals refine ⟨ret_bool ?_, rfl⟩
  all_goals (rw [Bool.eq_iff_iff, scB_true]; simp; try omega)

theorem len_any (r : Int) (w : World) : Calls Try.prog 19 #[.int .i32 r] w fun e w' => e = .returned (.int .i64 (ln r)) ∧ w = w' := by
  by_cases h : scB r = true
  · have h' := scB_true.1 h
    go_enter Try.func19, Try.ntmps19
    go_wp2_with (go_at_call 17; (with_reducible refine (scalar_any _ _).mono ?_); rintro e w' ⟨rfl, rfl⟩)
    all_goals go_ret
    all_goals refine ⟨ret_int ?_, rfl⟩
    all_goals (unfold ln; rw [if_pos h])
    all_goals ((repeat' split) <;> first | rfl | omega)
  · have h' : scB r = false := by simpa using h
    go_enter Try.func19, Try.ntmps19
    go_wp2_with (go_at_call 17; (with_reducible refine (scalar_any _ _).mono ?_); rintro e w' ⟨rfl, rfl⟩)
    all_goals go_ret
    all_goals refine ⟨ret_int ?_, rfl⟩
    all_goals (unfold ln; rw [if_neg h]; rfl)

theorem rlen_any (r : Int) (w : World) : Calls Try.prog 20 #[.int .i32 r] w fun e w' => e = .returned (.int .i64 (ln r)) ∧ w = w' := by
  by_cases h : scB r = true
  · have h' := scB_true.1 h
    go_enter Try.func20, Try.ntmps20
    go_wp2_with (go_at_call 18; (with_reducible refine (rscalar_any _ _).mono ?_); rintro e w' ⟨rfl, rfl⟩)
    all_goals go_ret
    all_goals refine ⟨ret_int ?_, rfl⟩
    all_goals (unfold ln; rw [if_pos h])
    all_goals ((repeat' split) <;> first | rfl | omega)
  · have h' : scB r = false := by simpa using h
    go_enter Try.func20, Try.ntmps20
    go_wp2_with (go_at_call 18; (with_reducible refine (rscalar_any _ _).mono ?_); rintro e w' ⟨rfl, rfl⟩)
    all_goals go_ret
    all_goals refine ⟨ret_int ?_, rfl⟩
    all_goals (unfold ln; rw [if_neg h]; rfl)

theorem len_is (r n : Int) (w : World) (h : (ln r : Int) = n) : Calls Try.prog 19 #[.int .i32 r] w fun e w' => e = .returned (.int .i64 n) ∧ w = w' := by
  subst h; exact len_any r w
theorem rlen_is (r n : Int) (w : World) (h : (ln r : Int) = n) : Calls Try.prog 20 #[.int .i32 r] w fun e w' => e = .returned (.int .i64 n) ∧ w = w' := by
  subst h; exact rlen_any r w
theorem scalar_is (r : Int) (b : Bool) (w : World) (h : scB r = b) : Calls Try.prog 17 #[.int .i32 r] w fun e w' => e = .returned (.bool b) ∧ w = w' := by
  subst h; exact scalar_any r w
theorem rscalar_is (r : Int) (b : Bool) (w : World) (h : scB r = b) : Calls Try.prog 18 #[.int .i32 r] w fun e w' => e = .returned (.bool b) ∧ w = w' := by
  subst h; exact rscalar_any r w

theorem head_any (n : Int) (w : World) : Calls Try.prog 26 #[.int .i64 n] w fun e w' => e = .returned (.int .u8 (hd n)) ∧ w = w' := by
  go_enter Try.func26, Try.ntmps26
  go_wp2
  all_goals go_ret
  all_goals refine ⟨ret_int ?_, rfl⟩
  all_goals simp only [beq_iff_eq, beq_eq_false_iff_ne, ne_eq] at *
  all_goals (unfold hd; (repeat' split) <;> first | rfl | omega)
theorem head_is (n c : Int) (w : World) (h : hd n = c) : Calls Try.prog 26 #[.int .i64 n] w fun e w' => e = .returned (.int .u8 c) ∧ w = w' := by
  subst h; exact head_any n w

theorem announced_any (c : Int) (w : World) (h0 : 0 ≤ c) (h1 : c < 256) : Calls Try.prog 25 #[.int .u8 c] w fun e w' => e = .returned (.int .i64 (an c)) ∧ w = w' := by
  go_enter Try.func25, Try.ntmps25
  go_wp2
  all_goals go_ret
  all_goals refine ⟨ret_int ?_, rfl⟩
  all_goals simp only [beq_iff_eq, beq_eq_false_iff_ne, ne_eq] at *
  all_goals (unfold an; (repeat' split) <;> first | rfl | omega)
theorem announced_is (c n : Int) (w : World) (h0 : 0 ≤ c) (h1 : c < 256) (h : (an c : Int) = n) : Calls Try.prog 25 #[.int .u8 c] w fun e w' => e = .returned (.int .i64 n) ∧ w = w' := by
  subst h; exact announced_any c w h0 h1
end Go.Proofs.Ytambempcicakgaa.U
