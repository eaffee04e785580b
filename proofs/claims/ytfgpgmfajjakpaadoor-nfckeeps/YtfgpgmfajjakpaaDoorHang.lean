/- What hangul.Split and the reference's Parts answer: a new list of a syllable's parts. -/
import Derived.Test.YtfgpgmfajjakpaaDoorChecked
import Derived.Test.YtfgpgmfajjakpaaDoorBase
namespace Go.Proofs.YtfgpgmfajjakpaaDoor.U
open Go.RowKit
set_option linter.unusedVariables false

theorem info21 : (Tryd.prog.info? 21).map (fun i => (i.zero, i.size, i.bytes)) = some (some (.int .i32 0), 1, 4) := by kernel_rfl
theorem syl_is (r : Int) (b : Bool) (w : World) (h : decide (44032 ≤ r ∧ r < 55204) = b) : Calls Tryd.prog 51 #[.int .i32 r] w fun e w' => e = .returned (.bool b) ∧ w = w' := by
  subst h
  go_enter Tryd.func51, Tryd.ntmps51
  go_wp2
  all_goals go_ret
  all_goals refine ⟨ret_bool ?_, rfl⟩
  all_goals (rw [Bool.eq_iff_iff]; simp; try omega)
theorem split_no (r : Int) (w : World) (h : r < 44032 ∨ 55204 ≤ r) : Calls Tryd.prog 32 #[.int .i32 r] w fun e w' => e = .returned (.slice none 0 0) ∧ w = w' := by
  have H := Lib.hid (decide_eq_false (p := 44032 ≤ r ∧ r < 55204) (by omega))
  clear h
  go_enter Tryd.func32, Tryd.ntmps32
  go_wp2_with (go_at_call 51; (with_reducible refine (syl_is _ false _ H.out).mono ?_); rintro e w' ⟨rfl, rfl⟩)
  go_ret
  exact ⟨rfl, rfl⟩

theorem split_two (r a b : Int) (w : World) (h0 : 44032 ≤ r) (h1 : r < 55204) (h : (r - 44032) % 28 = 0) (ha : 4352 + (r - 44032) / 588 = a) (hb : 4449 + (r - 44032) % 588 / 28 = b) :
    Calls Tryd.prog 32 #[.int .i32 r] w (Gives w [a, b] 2) := by
  have H := Lib.hid (decide_eq_true (p := 44032 ≤ r ∧ r < 55204) ⟨h0, h1⟩)
  have ht : ¬ 0 < (r - 44032) % 28 := by omega
  have HA := Lib.hid ha
  have HB := Lib.hid hb
  clear h ha hb
  go_enter Tryd.func32, Tryd.ntmps32
  go_wp2_with (go_at_call 51; (with_reducible refine (syl_is _ true _ H.out).mono ?_); rintro e w' ⟨rfl, rfl⟩)
  go_ret
  rw [HA.out, HB.out]
  exact gives_of rfl (Own.lit w 21 .i32 rfl rfl (by omega)) ((Bel.refl w).alloc _)

set_option maxHeartbeats 1000000 in
theorem split_three (r a b c : Int) (w : World) (h0 : 44032 ≤ r) (h1 : r < 55204) (h : 0 < (r - 44032) % 28) (ha : 4352 + (r - 44032) / 588 = a) (hb : 4449 + (r - 44032) % 588 / 28 = b) (hc : 4519 + (r - 44032) % 28 = c) :
    Calls Tryd.prog 32 #[.int .i32 r] w (Gives w [a, b, c] 3) := by
  obtain ⟨i0, hi0, hz0, hz1, hz2⟩ := info_parts info21
  have H := Lib.hid (decide_eq_true (p := 44032 ≤ r ∧ r < 55204) ⟨h0, h1⟩)
  have HA := Lib.hid ha
  have HB := Lib.hid hb
  have HC := Lib.hid hc
  have HR := Lib.hid (rd_lit_at (w := w.alloc (.cells #[.int .i32 (4352 + (r - 44032) / 588), .int .i32 (4449 + (r - 44032) % 588 / 28)] 21)) (cs := #[.int .i32 (4519 + (r - 44032) % 28)]) (t := 21) (k := .i32) (l := [c]) (n := w.heap.size + 1) (by simp) (by simp [hc]))
  have HO := Lib.hid ((Own.lit w 21 .i32 (cs := #[.int .i32 (4352 + (r - 44032) / 588), .int .i32 (4449 + (r - 44032) % 588 / 28)]) (l := [a, b]) (n := 2) (by simp [ha, hb]) rfl (by omega)).keep ((Bel.refl _).alloc (.cells #[.int .i32 (4519 + (r - 44032) % 28)] 21)))
  clear ha hb hc
  go_enter Tryd.func32, Tryd.ntmps32
  go_wp2_with (first
    | (go_at_call 51; (with_reducible refine (syl_is _ true _ H.out).mono ?_); rintro e w' ⟨rfl, rfl⟩)
    | (at_builtin; refine wpl_append (by rfl) (.tmp 23) (.tmp 26) 22 rfl Tryd.underlying22 hi0 hz0 hz1 hz2 rfl (by omega) HO.out rfl HR.out rfl rfl (fun e => by cases e) (by simp) (by simp; omega) ?_; intro v2 w2 hown2 hb2)
    | fail)
  go_ret
  exact gives_of rfl hown2 (Below.trans (((Bel.refl w).alloc _).alloc _) hb2)
theorem split_gives (r : Int) (n : Nat) (w : World) (h : (parts r).length = n) : Calls Tryd.prog 32 #[.int .i32 r] w (Gives w (parts r) n) := by
  by_cases h0 : 44032 ≤ r ∧ r < 55204
  · obtain ⟨h0, h1⟩ := h0
    by_cases ht : (r - 44032) % 28 = 0
    · rw [parts_two h0 h1 ht] at h ⊢
      subst h
      exact split_two r _ _ w h0 h1 ht rfl rfl
    · rw [parts_three h0 h1 (by omega)] at h ⊢
      subst h
      exact split_three r _ _ _ w h0 h1 (by omega) rfl rfl rfl
  · rw [parts_no (by omega)] at h ⊢
    subst h
    refine (split_no r w (by omega)).mono ?_
    rintro e w' ⟨rfl, rfl⟩
    exact ⟨none, 0, rfl, Nat.le_refl _, Rd.nil, fun _ => rfl, Bel.refl _⟩
end Go.Proofs.YtfgpgmfajjakpaaDoor.U
