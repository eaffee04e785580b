/- What the reference's Marks answers: all marks, rising, in a row of its own. -/
import Derived.Test.YtkbiogbaaomcdaaDoorRefOf
import Derived.Test.YtkbiogbaaomcdaaDoorAll
namespace Go.Proofs.YtkbiogbaaomcdaaDoor.U
open Go.RowKit
set_option linter.unusedVariables false

def MarksRel (w : World) (v i : Value) (w' : World) : Prop := ∃ r : Int, i = .int .i32 r ∧ 768 ≤ r ∧ r ≤ 65072 ∧ Own w' w.heap.size 21 .i32 v (below r marks) ∧ Bel w w'

set_option maxRecDepth 100000 in
set_option maxHeartbeats 4000000 in
theorem rmarks_any (w : World) : Calls Tryd.prog 12 #[] w (AllPost w marks) := by
  obtain ⟨i0, hi0, hz0, hz1, hz2⟩ := info_parts info21
  go_enter Tryd.func12, Tryd.ntmps12
  go_wp2
  go_loopw [1, 2] (fun v i wr => MarksRel w v i wr) (fun _ i _ => (65072 - intOf i).toNat)
  case atStart => exact ⟨768, rfl, by omega, by omega, by rw [below_768]; exact Own.nil _ _ _ _, Bel.refl _⟩
  case round =>
    obtain ⟨r, rfl, h0, h1, hown, hb⟩ := hrel
    by_cases hlt : r < 65072
    · by_cases j1 : r = 1024
      · subst j1
        rw [← below_1024] at hown
        obtain ⟨v, hv⟩ : ∃ v, cls 1424 = v := ⟨_, rfl⟩
        have HV := Lib.hid hv
        have HM := Lib.hid (marks_next 1424)
        rw [hv] at HM
        clear hv
        have hl1 := below_le 1424
        go_wp2_with fail
        refine (rclass_is 1424 v wr (by omega) HV.out).mono ?_
        rintro e w1 ⟨rfl, hb1⟩
        have hsz := Below.size (hb.trans hb1)
        by_cases hp : 0 < v
        · have HW := Lib.hid ((hown.keep hb1).keep ((Bel.refl w1).alloc (.cells #[.int .i32 1424] 21)))
          rw [if_pos hp] at HM
          clear hown
          go_wp2_with (at_builtin; refine wpl_append (by rfl) (.tmp 16) (.tmp 18) 25 rfl Tryd.underlying25 hi0 hz0 hz1 hz2 rfl (by omega) HW.out rfl (rd_lit (l := [1424]) rfl) rfl rfl (fun e => by cases e) (by omega) (by simp; omega) ?_; intro v2 w2 hown2 hb2)
          have hbw2 : Bel w w2 := Below.trans ((hb.trans hb1).alloc _) hb2
          rw [← HM.out] at hown2
          try go_wp2
          go_roundw
          case rel => exact ⟨1424 + 1, by first | go_num | rfl, by omega, by omega, hown2, hbw2⟩
          case measure => simp [intOf] <;> omega
        · have hown2 := hown.keep hb1
          rw [if_neg hp, List.append_nil] at HM
          rw [← HM.out] at hown2
          clear hown
          go_wp2
          go_roundw
          case rel => exact ⟨1424 + 1, by first | go_num | rfl, by omega, by omega, hown2, hb.trans hb1⟩
          case measure => simp [intOf] <;> omega
      · by_cases j2 : r = 1792
        · subst j2
          rw [← below_1792] at hown
          obtain ⟨v, hv⟩ : ∃ v, cls 12432 = v := ⟨_, rfl⟩
          have HV := Lib.hid hv
          have HM := Lib.hid (marks_next 12432)
          rw [hv] at HM
          clear hv
          have hl1 := below_le 12432
          go_wp2_with fail
          refine (rclass_is 12432 v wr (by omega) HV.out).mono ?_
          rintro e w1 ⟨rfl, hb1⟩
          have hsz := Below.size (hb.trans hb1)
          by_cases hp : 0 < v
          · have HW := Lib.hid ((hown.keep hb1).keep ((Bel.refl w1).alloc (.cells #[.int .i32 12432] 21)))
            rw [if_pos hp] at HM
            clear hown
            go_wp2_with (at_builtin; refine wpl_append (by rfl) (.tmp 16) (.tmp 18) 25 rfl Tryd.underlying25 hi0 hz0 hz1 hz2 rfl (by omega) HW.out rfl (rd_lit (l := [12432]) rfl) rfl rfl (fun e => by cases e) (by omega) (by simp; omega) ?_; intro v2 w2 hown2 hb2)
            have hbw2 : Bel w w2 := Below.trans ((hb.trans hb1).alloc _) hb2
            rw [← HM.out] at hown2
            try go_wp2
            go_roundw
            case rel => exact ⟨12432 + 1, by first | go_num | rfl, by omega, by omega, hown2, hbw2⟩
            case measure => simp [intOf] <;> omega
          · have hown2 := hown.keep hb1
            rw [if_neg hp, List.append_nil] at HM
            rw [← HM.out] at hown2
            clear hown
            go_wp2
            go_roundw
            case rel => exact ⟨12432 + 1, by first | go_num | rfl, by omega, by omega, hown2, hb.trans hb1⟩
            case measure => simp [intOf] <;> omega
        · by_cases j3 : r = 12448
          · subst j3
            rw [← below_12448] at hown
            obtain ⟨v, hv⟩ : ∃ v, cls 64256 = v := ⟨_, rfl⟩
            have HV := Lib.hid hv
            have HM := Lib.hid (marks_next 64256)
            rw [hv] at HM
            clear hv
            have hl1 := below_le 64256
            go_wp2_with fail
            refine (rclass_is 64256 v wr (by omega) HV.out).mono ?_
            rintro e w1 ⟨rfl, hb1⟩
            have hsz := Below.size (hb.trans hb1)
            by_cases hp : 0 < v
            · have HW := Lib.hid ((hown.keep hb1).keep ((Bel.refl w1).alloc (.cells #[.int .i32 64256] 21)))
              rw [if_pos hp] at HM
              clear hown
              go_wp2_with (at_builtin; refine wpl_append (by rfl) (.tmp 16) (.tmp 18) 25 rfl Tryd.underlying25 hi0 hz0 hz1 hz2 rfl (by omega) HW.out rfl (rd_lit (l := [64256]) rfl) rfl rfl (fun e => by cases e) (by omega) (by simp; omega) ?_; intro v2 w2 hown2 hb2)
              have hbw2 : Bel w w2 := Below.trans ((hb.trans hb1).alloc _) hb2
              rw [← HM.out] at hown2
              try go_wp2
              go_roundw
              case rel => exact ⟨64256 + 1, by first | go_num | rfl, by omega, by omega, hown2, hbw2⟩
              case measure => simp [intOf] <;> omega
            · have hown2 := hown.keep hb1
              rw [if_neg hp, List.append_nil] at HM
              rw [← HM.out] at hown2
              clear hown
              go_wp2
              go_roundw
              case rel => exact ⟨64256 + 1, by first | go_num | rfl, by omega, by omega, hown2, hb.trans hb1⟩
              case measure => simp [intOf] <;> omega
          · have q1 : (r == 1024) = false := by simp; omega
            have q2 : (r == 1792) = false := by simp; omega
            have q3 : (r == 12448) = false := by simp; omega
            obtain ⟨v, hv⟩ : ∃ v, cls r = v := ⟨_, rfl⟩
            have HV := Lib.hid hv
            have HM := Lib.hid (marks_next r)
            rw [hv] at HM
            clear hv
            have hl1 := below_le r
            go_wp2_with fail
            refine (rclass_is r v wr (by omega) HV.out).mono ?_
            rintro e w1 ⟨rfl, hb1⟩
            have hsz := Below.size (hb.trans hb1)
            by_cases hp : 0 < v
            · have HW := Lib.hid ((hown.keep hb1).keep ((Bel.refl w1).alloc (.cells #[.int .i32 r] 21)))
              rw [if_pos hp] at HM
              clear hown
              go_wp2_with (at_builtin; refine wpl_append (by rfl) (.tmp 16) (.tmp 18) 25 rfl Tryd.underlying25 hi0 hz0 hz1 hz2 rfl (by omega) HW.out rfl (rd_lit (l := [r]) rfl) rfl rfl (fun e => by cases e) (by omega) (by simp; omega) ?_; intro v2 w2 hown2 hb2)
              have hbw2 : Bel w w2 := Below.trans ((hb.trans hb1).alloc _) hb2
              rw [← HM.out] at hown2
              try go_wp2
              go_roundw
              case rel => exact ⟨r + 1, by first | go_num | rfl, by omega, by omega, hown2, hbw2⟩
              case measure => simp [intOf] <;> omega
            · have hown2 := hown.keep hb1
              rw [if_neg hp, List.append_nil] at HM
              rw [← HM.out] at hown2
              clear hown
              go_wp2
              go_roundw
              case rel => exact ⟨r + 1, by first | go_num | rfl, by omega, by omega, hown2, hb.trans hb1⟩
              case measure => simp [intOf] <;> omega
    · obtain rfl : r = 65072 := by omega
      rw [below_end] at hown
      go_wp2
      go_ret
      exact ⟨_, rfl, hown, hb⟩
end Go.Proofs.YtkbiogbaaomcdaaDoor.U
