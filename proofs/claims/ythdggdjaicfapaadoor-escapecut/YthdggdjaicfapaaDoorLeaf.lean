/- What is, alone, head, Final, Sides and Default of package sets answer; what slices.Index and slices.Contains answer at numbers. Final: where the table of last bytes lies in its variable. -/
import Derived.Test.YthdggdjaicfapaaDoorChecked
import Derived.Test.YthdggdjaicfapaaDoorBase
namespace Go.Proofs.YthdggdjaicfapaaDoor.U
open Go.RowKit
set_option linter.unusedVariables false

theorem is_is (s : Int) (b : Bool) (w : World) (h : decide (1 ≤ s ∧ s ≤ 12) = b) : Calls Tryd.prog 34 #[.int .i64 s] w fun e w' => e = .returned (.bool b) ∧ w = w' := by
  subst h
  go_enter Tryd.func34, Tryd.ntmps34
  go_wp2
  all_goals go_ret
  all_goals refine ⟨ret_bool ?_, rfl⟩
  all_goals (rw [Bool.eq_iff_iff]; simp; try omega)
theorem alone_is (s : Int) (b : Bool) (w : World) (h : decide (10 ≤ s ∧ s ≤ 12) = b) : Calls Tryd.prog 35 #[.int .i64 s] w fun e w' => e = .returned (.bool b) ∧ w = w' := by
  subst h
  go_enter Tryd.func35, Tryd.ntmps35
  go_wp2
  all_goals go_ret
  all_goals refine ⟨ret_bool ?_, rfl⟩
  all_goals (rw [Bool.eq_iff_iff]; simp; try omega)

theorem head_is (side set : Int) (S : ByteArray) (w : World) (h : str (headL side set) = S) : Calls Tryd.prog 27 #[.int .i64 side, .int .i64 set] w fun e w' => e = .returned (.string S) ∧ w = w' := by
  subst h
  by_cases ha : 10 ≤ set ∧ set ≤ 12
  · have e : headL side set = [] := if_pos ha
    rw [e]
    have H := Lib.hid (decide_eq_true ha)
    clear ha e
    go_enter Tryd.func27, Tryd.ntmps27
    go_wp2_with (go_at_call 35; (with_reducible refine (alone_is _ true _ H.out).mono ?_); rintro e w' ⟨rfl, rfl⟩)
    go_ret
    exact ⟨rfl, rfl⟩
  · have H := Lib.hid (decide_eq_false ha)
    by_cases h9 : set = 9
    · subst h9
      by_cases h0 : side = 0
      · subst h0
        go_enter Tryd.func27, Tryd.ntmps27
        go_wp2_with (go_at_call 35; (with_reducible refine (alone_is _ false _ H.out).mono ?_); rintro e w' ⟨rfl, rfl⟩)
        go_ret
        exact ⟨rfl, rfl⟩
      · have e : headL side 9 = [36, 41] := by unfold headL; simp [h0]
        rw [e]
        have hq : (side == 0) = false := by simpa using h0
        go_enter Tryd.func27, Tryd.ntmps27
        go_wp2_with (go_at_call 35; (with_reducible refine (alone_is _ false _ H.out).mono ?_); rintro e w' ⟨rfl, rfl⟩)
        go_ret
        exact ⟨rfl, rfl⟩
    · have hp : (set == 9) = false := by simpa using h9
      by_cases h0 : side = 0
      · subst h0
        have e : headL 0 set = [40] := by unfold headL; rw [if_neg ha, if_neg (by omega), if_neg h9, if_pos rfl]
        rw [e]
        clear e ha h9
        go_enter Tryd.func27, Tryd.ntmps27
        go_wp2_with (go_at_call 35; (with_reducible refine (alone_is _ false _ H.out).mono ?_); rintro e w' ⟨rfl, rfl⟩)
        go_ret
        exact ⟨rfl, rfl⟩
      · have e : headL side set = [41] := by unfold headL; rw [if_neg ha, if_neg (by omega), if_neg h9, if_neg h0]
        rw [e]
        have hq : (side == 0) = false := by simpa using h0
        clear e ha h9 h0
        go_enter Tryd.func27, Tryd.ntmps27
        go_wp2_with (go_at_call 35; (with_reducible refine (alone_is _ false _ H.out).mono ?_); rintro e w' ⟨rfl, rfl⟩)
        go_ret
        exact ⟨rfl, rfl⟩

/-- The table lies in its variable. -/
def Tb (w : World) : Prop := ∀ k l, lastT[k]? = some l → w.cell? ⟨0, k, none⟩ = some (.string (str l))
theorem Tb.bel {w w' : World} (h : Tb w) (hb : Bel w w') : Tb w' := fun k l hl => by
  have := h k l hl
  exact (Below.cell hb (p := ⟨0, k, none⟩) (cell_block this)).trans this

theorem final_no (s : Int) (w : World) (h : ¬ (1 ≤ s ∧ s ≤ 12)) : Calls Tryd.prog 37 #[.int .i64 s] w fun e w' => e = .returned (.tuple #[.int .u8 0, .bool false]) ∧ w = w' := by
  have H := Lib.hid (decide_eq_false h)
  clear h
  go_enter Tryd.func37, Tryd.ntmps37
  go_wp2_with (go_at_call 34; (with_reducible refine (is_is _ false _ H.out).mono ?_); rintro e w' ⟨rfl, rfl⟩)
  go_ret2
  exact ⟨rfl, rfl⟩
end Go.Proofs.YthdggdjaicfapaaDoor.U
