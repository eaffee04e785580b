/- EaccKana answers true at every number; nothing that was there is changed. No condition. -/
import Derived.Test.YtkhcodmcddeakaaAns
namespace Go.Proofs.Ytkhcodmcddeakaa.U
open Go.RowKit
set_option linter.unusedVariables false

theorem kana_ok : ∀ k : Nat, k < 83 → runeL (6890529 + (k : Int)) = (12353 + (k : Int), true) ∧ runeL (6890785 + (k : Int)) = (12449 + (k : Int), true) ∧ codesL (12353 + (k : Int)) 10 = [6890529 + (k : Int)] := by decide +kernel

set_option maxHeartbeats 1000000 in
theorem walk_kana (n : Int) (h0 : 0 ≤ n) (h1 : n < 256) (w : World) : Calls Try.prog 4 #[.int .u8 n] w fun e w' => e = .returned (.bool true) ∧ Bel w w' := by
  obtain ⟨k, hk⟩ : ∃ k : Nat, n % 83 = k := ⟨(n % 83).toNat, by omega⟩
  obtain ⟨o1, o2, o3⟩ := kana_ok k (by omega)
  have HA := Lib.hid o1
  have HB := Lib.hid o2
  have HC := Lib.hid o3
  clear o1 o2 o3
  have hkk : (k : Int) < 83 := by omega
  go_enter Try.func4, Try.ntmps4
  go_wp2_with fail
  with_reducible refine (rune_at HA.out _).mono ?_
  rintro e w1 ⟨rfl, hb1⟩
  go_wp2_with fail
  with_reducible refine (rune_at HB.out _).mono ?_
  rintro e w2 ⟨rfl, hb2⟩
  go_wp2_with fail
  with_reducible refine (codes_at HC.out rfl _).mono ?_
  rintro e w3 ⟨A, cap, rfl, hr, hb3⟩
  obtain ⟨g, off, rfl, _, _⟩ := hr.isSome (by simp)
  go_wp2_with (go_at_call 7; (with_reducible refine (answers_any _).mono ?_); rintro e w4 ⟨rfl, hb4⟩; have hc := (hr.bel hb4).at (i := 0) rfl; rw [Nat.add_zero] at hc)
  all_goals go_ret
  all_goals exact ⟨ret_bool (by first | rfl | simp), ((hb1.trans hb2).trans hb3).trans hb4⟩
end Go.Proofs.Ytkhcodmcddeakaa.U
