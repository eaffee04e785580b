/- SetsNone's walk: it answers true, where the table of last bytes lies in its variable. -/
import Derived.Test.YtmghmhhiahmjaaaDoorDes
namespace Go.Proofs.YtmghmhhiahmjaaaDoor.U
open Go.RowKit
set_option linter.unusedVariables false

theorem sound_usual (w : World) : Calls Tryd.prog 16 #[.agg #[.int .i64 1, .int .i64 2]] w fun e w' => e = .returned (.bool true) ∧ Bel w w' := by
  go_enter Tryd.func16, Tryd.ntmps16
  go_wp2
  go_ret
  exact ⟨rfl, (Bel.refl w).alloc _⟩

theorem none_out (side set : Int) (w : World) (hT : Tb w) (h : side < 0 ∨ (0 ≤ side ∧ side ≤ 1) ∨ 1 < side) (k : set < 1 ∨ (1 ≤ set ∧ set ≤ 12) ∨ 12 < set) (hn : ¬ ((0 ≤ side ∧ side ≤ 1) ∧ 1 ≤ set ∧ set ≤ 12)) :
    Calls Tryd.prog 6 #[.int .i64 side, .int .i64 set] w fun e w' => e = .returned (.bool true) ∧ Bel w w' := by
  have HV : Hid (¬ Valid side set) := Lib.hid (by rintro ⟨h1, h2, h3, _⟩; exact hn ⟨by omega, h2, h3⟩)
  have HT := Lib.hid hT
  have HN := Lib.hid hn
  clear hn hT
  rcases h with h | ⟨h, h'⟩ | h <;> rcases k with k | ⟨k, k'⟩ | k
  case inr.inl.inr.inl => exact absurd ⟨⟨h, h'⟩, k, k'⟩ HN.out
  all_goals
    have HK := Lib.hid k
    go_enter Tryd.func6, Tryd.ntmps6
    go_wp2_with fail
    refine (des_no side set w HV.out).mono ?_
    rintro e w1 ⟨rfl, hb1⟩
    go_wp2_with fail
    refine (answers_any w1 (HT.out.bel hb1)).mono ?_
    rintro e w2 ⟨rfl, hb2⟩
    go_wp2_with (go_at_call 10; (with_reducible refine (sides_no _ _ (by have := HK.out; omega)).mono ?_); rintro e w3 ⟨rfl, rfl⟩)
    go_ret
    exact ⟨rfl, hb1.trans hb2⟩

theorem none_in (side set : Int) (w : World) (hT : Tb w) (h0 : 0 ≤ side) (h1 : side ≤ 1) (k0 : 1 ≤ set) (k1 : set ≤ 12) :
    Calls Tryd.prog 6 #[.int .i64 side, .int .i64 set] w fun e w' => e = .returned (.bool true) ∧ Bel w w' := by
  have HT := Lib.hid hT
  clear hT
  go_enter Tryd.func6, Tryd.ntmps6
  go_wp2_with fail
  refine (answers_any w HT.out).mono ?_
  rintro e w1 ⟨rfl, hb1⟩
  go_wp2_with fail
  refine (default_is w1).mono ?_
  rintro e w2 ⟨rfl, hb2⟩
  go_wp2_with fail
  refine (sound_usual w2).mono ?_
  rintro e w3 ⟨rfl, hb3⟩
  go_wp2_with fail
  refine (default_is w3).mono ?_
  rintro e w4 ⟨rfl, hb4⟩
  go_wp2
  go_ret
  exact ⟨rfl, ((hb1.trans hb2).trans hb3).trans hb4⟩

theorem none_any (side set : Int) (w : World) (hT : Tb w) : Calls Tryd.prog 6 #[.int .i64 side, .int .i64 set] w fun e w' => e = .returned (.bool true) ∧ Bel w w' := by
  by_cases h : (0 ≤ side ∧ side ≤ 1) ∧ 1 ≤ set ∧ set ≤ 12
  · exact none_in side set w hT h.1.1 h.1.2 h.2.1 h.2.2
  · exact none_out side set w hT (by omega) (by omega) h
end Go.Proofs.YtmghmhhiahmjaaaDoor.U
