/- EaccBytes answers true at every number; nothing that was there is changed. No condition. -/
import Derived.Test.YtkhcodmcddeakaaAns
namespace Go.Proofs.Ytkhcodmcddeakaa.U
open Go.RowKit
set_option linter.unusedVariables false

set_option maxHeartbeats 1000000 in
theorem walk_bytes (n : Int) (h0 : 0 ≤ n) (h1 : n < 4294967296) (w : World) : Calls Try.prog 3 #[.int .u32 n] w fun e w' => e = .returned (.bool true) ∧ Bel w w' := by
  obtain ⟨x, hx⟩ : ∃ x, n % 16777216 = x := ⟨_, rfl⟩
  have x0 : 0 ≤ x ∧ x < 16777216 := by omega
  obtain ⟨r, ok, hr⟩ : ∃ r ok, runeL x = (r, ok) := ⟨_, _, rfl⟩
  have HR := Lib.hid hr
  cases ok with
  | false =>
    go_enter Try.func3, Try.ntmps3
    go_wp2_with (first
      | (go_at_call 6; (with_reducible refine (rune_at HR.out _).mono ?_); rintro e w1 ⟨rfl, hb1⟩)
      | (go_at_call 7; (with_reducible refine (answers_any _).mono ?_); rintro e w2 ⟨rfl, hb2⟩)
      | fail)
    all_goals go_ret
    all_goals exact ⟨rfl, hb1.trans hb2⟩
  | true =>
    have ho := rune_ok hr
    simp only [okc, Bool.and_eq_true, decide_eq_true_eq] at ho
    obtain ⟨⟨⟨⟨⟨c1, c2⟩, c3⟩, c4⟩, c5⟩, c6⟩ := ho
    have a1 := and255 (c := x / 256) (by omega) (by omega)
    have a2 := and255 (c := x) (by omega) (by omega)
    have b3 : 33 ≤ bits BinOp.and IntKind.i64 (x / 256) 255 := by rw [a1]; exact c3
    have b4 : bits BinOp.and IntKind.i64 (x / 256) 255 ≤ 126 := by rw [a1]; exact c4
    have b5 : 33 ≤ bits BinOp.and IntKind.i64 x 255 := by rw [a2]; exact c5
    have b6 : bits BinOp.and IntKind.i64 x 255 ≤ 126 := by rw [a2]; exact c6
    clear a1 a2 hr
    go_enter Try.func3, Try.ntmps3
    go_wp2_with (first
      | (go_at_call 6; (with_reducible refine (rune_at HR.out _).mono ?_); rintro e w1 ⟨rfl, hb1⟩)
      | (go_at_call 7; (with_reducible refine (answers_any _).mono ?_); rintro e w2 ⟨rfl, hb2⟩)
      | fail)
    all_goals go_ret
    all_goals refine ⟨ret_bool ?_, hb1.trans hb2⟩
    all_goals first | rfl | (simp; omega) | (simp [b6]; done)
end Go.Proofs.Ytkhcodmcddeakaa.U
