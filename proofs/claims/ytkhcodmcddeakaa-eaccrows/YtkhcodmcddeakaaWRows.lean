/- EaccRows answers true at every number; nothing that was there is changed. No condition. -/
import Derived.Test.YtkhcodmcddeakaaAns
namespace Go.Proofs.Ytkhcodmcddeakaa.U
open Go.RowKit
set_option linter.unusedVariables false

theorem rows_ok : ∀ k : Nat, k < 175 → (runeL (2175009 + (k : Int) / 94 * 256 + (k : Int) % 94)).2 = true ∧ 19968 ≤ (runeL (2175009 + (k : Int) / 94 * 256 + (k : Int) % 94)).1 := by decide +kernel
theorem behind : runeL 2175346 = (0, false) := by decide +kernel

set_option maxHeartbeats 1000000 in
theorem walk_rows (n : Int) (h0 : 0 ≤ n) (h1 : n < 256) (w : World) : Calls Try.prog 5 #[.int .u8 n] w fun e w' => e = .returned (.bool true) ∧ Bel w w' := by
  obtain ⟨k, hk⟩ : ∃ k : Nat, n % 175 = k := ⟨(n % 175).toNat, by omega⟩
  obtain ⟨o1, o2⟩ := rows_ok k (by omega)
  obtain ⟨r, hr⟩ : ∃ r, runeL (2175009 + (k : Int) / 94 * 256 + (k : Int) % 94) = (r, true) := ⟨_, Prod.ext rfl o1⟩
  rw [hr] at o2
  have HR := Lib.hid hr
  clear o1 hr
  have hkk : (k : Int) < 175 := by omega
  go_enter Try.func5, Try.ntmps5
  go_wp2_with fail
  with_reducible refine (rune_at HR.out _).mono ?_
  rintro e w1 ⟨rfl, hb1⟩
  go_wp2_with fail
  with_reducible refine (rune_at behind _).mono ?_
  rintro e w2 ⟨rfl, hb2⟩
  go_wp2_with (go_at_call 7; (with_reducible refine (answers_any _).mono ?_); rintro e w3 ⟨rfl, hb3⟩)
  all_goals go_ret
  all_goals exact ⟨ret_bool (by first | rfl | simp), (hb1.trans hb2).trans hb3⟩
end Go.Proofs.Ytkhcodmcddeakaa.U
