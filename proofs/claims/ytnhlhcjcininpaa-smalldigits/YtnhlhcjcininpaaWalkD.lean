/- SmallDigits answers true at every two numbers; nothing that was there is changed. -/
import Derived.Test.YtnhlhcjcininpaaLeaf
namespace Go.Proofs.Ytnhlhcjcininpaa.U
open Go.RowKit

/-- A digit's superscript. -/
def upD (i : Int) : Int := if i = 49 then 185 else if i = 50 then 178 else if i = 51 then 179 else 8304 + (i - 48)

theorem sub_digit {i j : Int} (h0 : 48 ≤ i) (h1 : i ≤ 57) (hj : j = 8320 + (i - 48)) : ru 10 i = (j, true) := by
  subst hj
  show sg 8320 i = _
  unfold sg; rw [if_pos ⟨h0, h1⟩]

theorem up_digit {i : Int} (h0 : 48 ≤ i) (h1 : i ≤ 57) : ru 11 i = (upD i, true) := by
  show up i = _
  have h : sg 8304 i = (8304 + (i - 48), true) := by unfold sg; rw [if_pos ⟨h0, h1⟩]
  unfold up upD
  rw [h]
  (repeat' split) <;> rfl

theorem upD_other {i j : Int} (hj : j = 8320 + (i - 48)) : (j == upD i) = false := by
  rw [beq_eq_false_iff_ne]
  unfold upD
  (repeat' split) <;> omega

theorem upD_once {i k : Int} (h0 : 48 ≤ i) (h1 : i ≤ 57) (k0 : 48 ≤ k) (k1 : k ≤ 57) : (upD i == upD k) = (i == k) := by
  rw [Bool.eq_iff_iff, beq_iff_eq, beq_iff_eq]
  constructor
  · unfold upD; (repeat' split) <;> omega
  · rintro rfl; rfl

set_option maxHeartbeats 1000000 in
theorem walk_digits (a b : Int) (ha : 0 ≤ a ∧ a < 256) (hb : 0 ≤ b ∧ b < 256) (w : World) :
    Calls Try.prog 3 #[.int .u8 a, .int .u8 b] w fun e w' => e = .returned (.bool true) ∧ w' = w := by
  have HA := Lib.hid (sub_digit (i := 48 + a % 10) (j := 8320 + a % 10) (by omega) (by omega) (by omega))
  have HB := up_digit (i := 48 + a % 10) (by omega) (by omega)
  have HC := up_digit (i := 48 + b % 10) (by omega) (by omega)
  have hx := upD_other (i := 48 + a % 10) (j := 8320 + a % 10) (by omega)
  have hy := upD_once (i := 48 + a % 10) (k := 48 + b % 10) (by omega) (by omega) (by omega) (by omega)
  generalize upD (48 + a % 10) = u at HB hx hy
  generalize upD (48 + b % 10) = v at HC hy
  replace HB := Lib.hid HB
  replace HC := Lib.hid HC
  go_enter Try.func3, Try.ntmps3
  go_wp2_with fail
  with_reducible refine (rune_is 10 _ _ _ (Or.inl rfl) HA.out _).mono ?_
  rintro e w' ⟨rfl, rfl⟩
  go_wp2_with fail
  with_reducible refine (rune_is 11 _ _ _ (Or.inr (Or.inl rfl)) HB.out _).mono ?_
  rintro e w' ⟨rfl, rfl⟩
  go_wp2_with fail
  with_reducible refine (rune_is 11 _ _ _ (Or.inr (Or.inl rfl)) HC.out _).mono ?_
  rintro e w' ⟨rfl, rfl⟩
  go_wp2_with (go_at_call 6; (with_reducible refine (answers_any _).mono ?_); rintro e w' ⟨rfl, rfl⟩)
  go_ret
  refine ⟨?_, rfl⟩
  show Ending.returned (.bool (8320 + a % 10 != u)) = _
  rw [bne, hx]; rfl
end Go.Proofs.Ytnhlhcjcininpaa.U
