/- The law's function answers true, whatever it is handed. -/
import Derived.Test.YtkdcmmaocbmedaaDoorRefOf
namespace Go.Proofs.YtkdcmmaocbmedaaDoor.U
open Go.RowKit
set_option linter.unusedVariables false

/-- What Join of r and s comes to: split into both, or none. -/
theorem joi_last {r s x : Int} {ok : Bool} (h : Joi r s x ok) : (ok = true ∧ Spl x r s 2 ∧ cls r = 0 ∧ 0 < cls s) ∨ (ok = false ∧ x = 0) := by
  cases ok with
  | true => exact .inl ⟨rfl, join_back h⟩
  | false => exact .inr ⟨rfl, joi_no h⟩

set_option maxRecDepth 100000 in
set_option maxHeartbeats 3000000 in
theorem walk_back (r s : Int) (w : World) (hr : -2147483648 ≤ r ∧ r ≤ 2147483647) (hs : -2147483648 ≤ s ∧ s ≤ 2147483647) :
    Calls Tryd.prog 3 #[.int .i32 r, .int .i32 s] w fun e w' => e = .returned (.bool true) ∧ Bel w w' := by
  obtain ⟨a, b, n, hSp⟩ := spl_any r
  obtain ⟨x, ok, hJo⟩ := joi_any r s
  have H1 := Lib.hid (fun w => split_is r a b n w hSp)
  have H2 := Lib.hid (fun w => join_is r s x ok w hJo hs)
  have HSp := Lib.hid hSp
  have HL := Lib.hid (joi_last hJo)
  have HR := Lib.hid hr
  have HS := Lib.hid hs
  clear hSp hJo hr hs
  go_enter Tryd.func3, Tryd.ntmps3
  go_wp2_with fail
  refine (H1.out _).mono ?_
  rintro e w1 ⟨rfl, hb1⟩
  go_wp2_with fail
  refine (H2.out _).mono ?_
  rintro e w2 ⟨rfl, h2⟩
  have hb2 := hb1.trans h2
  go_wp2_with fail
  refine (answers_is _).mono ?_
  rintro e w3 ⟨rfl, h3⟩
  have hb3 := hb2.trans h3
  clear H1 H2
  have hfit := spl_fit HSp.out
  rcases spl_n HSp.out with ⟨rfl, hb0⟩ | ⟨rfl, rfl⟩ | ⟨rfl, rfl, rfl⟩
  · obtain ⟨hcb, hca, hJ⟩ := split_back HSp.out
    obtain ⟨va, hva⟩ : ∃ v, cls a = v := ⟨_, rfl⟩
    obtain ⟨vb, hvb⟩ : ∃ v, cls b = v := ⟨_, rfl⟩
    rw [hva] at hca
    rw [hvb] at hcb
    have HCA := Lib.hid (fun w => rclass_is a va w ⟨by omega, by omega⟩ hva)
    have HCB := Lib.hid (fun w => rclass_is b vb w ⟨by omega, by omega⟩ hvb)
    have qb : (vb == 0) = false := by simp; omega
    clear hva hvb hb0
    by_cases e1 : r = 836
    · subst e1
      have H4 := Lib.hid (fun w => join_is a b 0 false w hJ ⟨by omega, by omega⟩)
      have q1 : 0 < va := by simpa using hca
      clear hJ hca hfit HSp
      go_wp2_with fail
      with_reducible refine (H4.out _).mono ?_
      rintro e w4 ⟨rfl, h4⟩
      have hb4 := hb3.trans h4
      go_wp2_with fail
      with_reducible refine (HCB.out _).mono ?_
      rintro e w5 ⟨rfl, h5⟩
      have hb5 := hb4.trans h5
      go_wp2_with fail
      with_reducible refine (HCA.out _).mono ?_
      rintro e w6 ⟨rfl, h6⟩
      have hb6 := hb5.trans h6
      rcases HL.out with ⟨rfl, h5, g0, g1⟩ | ⟨rfl, rfl⟩
      · have H5 := Lib.hid (fun w => split_is x 836 s 2 w h5)
        obtain ⟨vs, hvs⟩ : ∃ v, cls s = v := ⟨_, rfl⟩
        rw [hvs] at g1
        have H6 := Lib.hid (fun w => rclass_is 836 0 w HR.out g0)
        have H7 := Lib.hid (fun w => rclass_is s vs w HS.out hvs)
        clear h5 g0 hvs
        go_wp2_with fail
        with_reducible refine (H5.out _).mono ?_
        rintro e w7 ⟨rfl, h7⟩
        have hb7 := hb6.trans h7
        go_wp2_with fail
        with_reducible refine (H6.out _).mono ?_
        rintro e w8 ⟨rfl, h8⟩
        have hb8 := hb7.trans h8
        go_wp2_with fail
        with_reducible refine (H7.out _).mono ?_
        rintro e w9 ⟨rfl, h9⟩
        have hb9 := hb8.trans h9
        go_wp2
        go_ret
        exact ⟨by first | rfl | (refine ret_bool ?_; simp; omega), hb9⟩
      · go_wp2
        go_ret
        exact ⟨by first | rfl | (refine ret_bool ?_; simp), hb6⟩
    · have q1 : (r == 836) = false := by simpa using e1
      have q2 : ¬ 0 < va := by rw [q1] at hca; simpa using hca
      clear hca
      by_cases e2 : r = 64302
      · subst e2
        have H4 := Lib.hid (fun w => join_is a b 0 false w hJ ⟨by omega, by omega⟩)
        clear hJ hfit HSp
        go_wp2_with fail
        with_reducible refine (H4.out _).mono ?_
        rintro e w4 ⟨rfl, h4⟩
        have hb4 := hb3.trans h4
        go_wp2_with fail
        with_reducible refine (HCB.out _).mono ?_
        rintro e w5 ⟨rfl, h5⟩
        have hb5 := hb4.trans h5
        go_wp2_with fail
        with_reducible refine (HCA.out _).mono ?_
        rintro e w6 ⟨rfl, h6⟩
        have hb6 := hb5.trans h6
        rcases HL.out with ⟨rfl, h5, g0, g1⟩ | ⟨rfl, rfl⟩
        · have H5 := Lib.hid (fun w => split_is x 64302 s 2 w h5)
          obtain ⟨vs, hvs⟩ : ∃ v, cls s = v := ⟨_, rfl⟩
          rw [hvs] at g1
          have H6 := Lib.hid (fun w => rclass_is 64302 0 w HR.out g0)
          have H7 := Lib.hid (fun w => rclass_is s vs w HS.out hvs)
          clear h5 g0 hvs
          go_wp2_with fail
          with_reducible refine (H5.out _).mono ?_
          rintro e w7 ⟨rfl, h7⟩
          have hb7 := hb6.trans h7
          go_wp2_with fail
          with_reducible refine (H6.out _).mono ?_
          rintro e w8 ⟨rfl, h8⟩
          have hb8 := hb7.trans h8
          go_wp2_with fail
          with_reducible refine (H7.out _).mono ?_
          rintro e w9 ⟨rfl, h9⟩
          have hb9 := hb8.trans h9
          go_wp2
          go_ret
          exact ⟨by first | rfl | (refine ret_bool ?_; simp; omega), hb9⟩
        · go_wp2
          go_ret
          exact ⟨by first | rfl | (refine ret_bool ?_; simp), hb6⟩
      · have q3 : (r == 64302) = false := by simpa using e2
        by_cases e3 : r = 64303
        · subst e3
          have H4 := Lib.hid (fun w => join_is a b 0 false w hJ ⟨by omega, by omega⟩)
          clear hJ hfit HSp
          go_wp2_with fail
          with_reducible refine (H4.out _).mono ?_
          rintro e w4 ⟨rfl, h4⟩
          have hb4 := hb3.trans h4
          go_wp2_with fail
          with_reducible refine (HCB.out _).mono ?_
          rintro e w5 ⟨rfl, h5⟩
          have hb5 := hb4.trans h5
          go_wp2_with fail
          with_reducible refine (HCA.out _).mono ?_
          rintro e w6 ⟨rfl, h6⟩
          have hb6 := hb5.trans h6
          rcases HL.out with ⟨rfl, h5, g0, g1⟩ | ⟨rfl, rfl⟩
          · have H5 := Lib.hid (fun w => split_is x 64303 s 2 w h5)
            obtain ⟨vs, hvs⟩ : ∃ v, cls s = v := ⟨_, rfl⟩
            rw [hvs] at g1
            have H6 := Lib.hid (fun w => rclass_is 64303 0 w HR.out g0)
            have H7 := Lib.hid (fun w => rclass_is s vs w HS.out hvs)
            clear h5 g0 hvs
            go_wp2_with fail
            with_reducible refine (H5.out _).mono ?_
            rintro e w7 ⟨rfl, h7⟩
            have hb7 := hb6.trans h7
            go_wp2_with fail
            with_reducible refine (H6.out _).mono ?_
            rintro e w8 ⟨rfl, h8⟩
            have hb8 := hb7.trans h8
            go_wp2_with fail
            with_reducible refine (H7.out _).mono ?_
            rintro e w9 ⟨rfl, h9⟩
            have hb9 := hb8.trans h9
            go_wp2
            go_ret
            exact ⟨by first | rfl | (refine ret_bool ?_; simp; omega), hb9⟩
          · go_wp2
            go_ret
            exact ⟨by first | rfl | (refine ret_bool ?_; simp), hb6⟩
        · have q4 : (r == 64303) = false := by simpa using e3
          have hf : few r = false := by unfold few; rw [q1, q3, q4]; rfl
          rw [hf] at hJ
          have H4 := Lib.hid (fun w => join_is a b r true w hJ ⟨by omega, by omega⟩)
          clear hJ hfit HSp hf
          go_wp2_with fail
          with_reducible refine (H4.out _).mono ?_
          rintro e w4 ⟨rfl, h4⟩
          have hb4 := hb3.trans h4
          go_wp2_with fail
          with_reducible refine (HCB.out _).mono ?_
          rintro e w5 ⟨rfl, h5⟩
          have hb5 := hb4.trans h5
          go_wp2_with fail
          with_reducible refine (HCA.out _).mono ?_
          rintro e w6 ⟨rfl, h6⟩
          have hb6 := hb5.trans h6
          rcases HL.out with ⟨rfl, h5, g0, g1⟩ | ⟨rfl, rfl⟩
          · have H5 := Lib.hid (fun w => split_is x r s 2 w h5)
            obtain ⟨vs, hvs⟩ : ∃ v, cls s = v := ⟨_, rfl⟩
            rw [hvs] at g1
            have H6 := Lib.hid (fun w => rclass_is r 0 w HR.out g0)
            have H7 := Lib.hid (fun w => rclass_is s vs w HS.out hvs)
            clear h5 g0 hvs
            go_wp2_with fail
            with_reducible refine (H5.out _).mono ?_
            rintro e w7 ⟨rfl, h7⟩
            have hb7 := hb6.trans h7
            go_wp2_with fail
            with_reducible refine (H6.out _).mono ?_
            rintro e w8 ⟨rfl, h8⟩
            have hb8 := hb7.trans h8
            go_wp2_with fail
            with_reducible refine (H7.out _).mono ?_
            rintro e w9 ⟨rfl, h9⟩
            have hb9 := hb8.trans h9
            go_wp2
            go_ret
            exact ⟨by first | rfl | (refine ret_bool ?_; simp; omega), hb9⟩
          · go_wp2
            go_ret
            exact ⟨by first | rfl | (refine ret_bool ?_; simp), hb6⟩
  · clear hfit HSp
    rcases HL.out with ⟨rfl, h5, g0, g1⟩ | ⟨rfl, rfl⟩
    · have H5 := Lib.hid (fun w => split_is x r s 2 w h5)
      obtain ⟨vs, hvs⟩ : ∃ v, cls s = v := ⟨_, rfl⟩
      rw [hvs] at g1
      have H6 := Lib.hid (fun w => rclass_is r 0 w HR.out g0)
      have H7 := Lib.hid (fun w => rclass_is s vs w HS.out hvs)
      clear h5 g0 hvs
      go_wp2_with fail
      with_reducible refine (H5.out _).mono ?_
      rintro e w7 ⟨rfl, h7⟩
      have hb7 := hb3.trans h7
      go_wp2_with fail
      with_reducible refine (H6.out _).mono ?_
      rintro e w8 ⟨rfl, h8⟩
      have hb8 := hb7.trans h8
      go_wp2_with fail
      with_reducible refine (H7.out _).mono ?_
      rintro e w9 ⟨rfl, h9⟩
      have hb9 := hb8.trans h9
      go_wp2
      go_ret
      exact ⟨by first | rfl | (refine ret_bool ?_; simp; omega), hb9⟩
    · go_wp2
      go_ret
      exact ⟨by first | rfl | (refine ret_bool ?_; simp), hb3⟩
  · clear hfit HSp
    rcases HL.out with ⟨rfl, h5, g0, g1⟩ | ⟨rfl, rfl⟩
    · have H5 := Lib.hid (fun w => split_is x r s 2 w h5)
      obtain ⟨vs, hvs⟩ : ∃ v, cls s = v := ⟨_, rfl⟩
      rw [hvs] at g1
      have H6 := Lib.hid (fun w => rclass_is r 0 w HR.out g0)
      have H7 := Lib.hid (fun w => rclass_is s vs w HS.out hvs)
      clear h5 g0 hvs
      go_wp2_with fail
      with_reducible refine (H5.out _).mono ?_
      rintro e w7 ⟨rfl, h7⟩
      have hb7 := hb3.trans h7
      go_wp2_with fail
      with_reducible refine (H6.out _).mono ?_
      rintro e w8 ⟨rfl, h8⟩
      have hb8 := hb7.trans h8
      go_wp2_with fail
      with_reducible refine (H7.out _).mono ?_
      rintro e w9 ⟨rfl, h9⟩
      have hb9 := hb8.trans h9
      go_wp2
      go_ret
      exact ⟨by first | rfl | (refine ret_bool ?_; simp; omega), hb9⟩
    · go_wp2
      go_ret
      exact ⟨by first | rfl | (refine ret_bool ?_; simp), hb3⟩
end Go.Proofs.YtkdcmmaocbmedaaDoor.U
