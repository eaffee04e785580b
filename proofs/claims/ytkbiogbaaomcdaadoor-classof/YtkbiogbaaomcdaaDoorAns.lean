/- What class.Mark and the laws' own 'answers' answer; ClassBounds and ClassSteps answer true, where the table of spans lies in its variable. -/
import Derived.Test.YtkbiogbaaomcdaaDoorOf
namespace Go.Proofs.YtkbiogbaaomcdaaDoor.U
open Go.RowKit
set_option linter.unusedVariables false

theorem mark_is (r : Int) (b : Bool) (w : World) (h : Sp w) (hb : decide (0 < cls r) = b) : Calls Tryd.prog 10 #[.int .i32 r] w (BoolIs w b) := by
  obtain ⟨v, hv⟩ : ∃ v, cls r = v := ⟨_, rfl⟩
  have hO := of_is r v w h hv
  rw [hv] at hb
  clear hv h
  go_enter Tryd.func10, Tryd.ntmps10
  go_wp2_with (go_at_call 8; refine hO.mono ?_; rintro e w1 ⟨rfl, hb1⟩)
  go_ret
  exact ⟨by first | rfl | exact ret_bool hb, hb1⟩

theorem answers_any (w : World) (h : Sp w) : Calls Tryd.prog 7 #[] w (BoolIs w true) := by
  have hO := of_is 769 230 w h (by kernel_rfl)
  have hM := fun w1 hb => mark_is 837 true w1 (h.bel (w := w) hb) (by kernel_rfl)
  clear h
  go_enter Tryd.func7, Tryd.ntmps7
  go_wp2_with (first | (go_at_call 8; refine hO.mono ?_; rintro e w1 ⟨rfl, hb1⟩) | (go_at_call 10; refine (hM w1 hb1).mono ?_; rintro e w2 ⟨rfl, hb2⟩))
  go_ret
  exact ⟨rfl, hb1.trans hb2⟩

set_option maxHeartbeats 2000000 in
theorem walk_bounds (r : Int) (w : World) (h : Sp w) : Calls Tryd.prog 5 #[.int .i32 r] w fun e w' => e = .returned (.bool true) ∧ Bel w w' := by
  obtain ⟨v, hv⟩ : ∃ v, cls r = v := ⟨_, rfl⟩
  have hO := of_is r v w h hv
  have hA := fun w1 hb => answers_any w1 (h.bel (w := w) hb)
  obtain ⟨g0, g1, g2⟩ := cls_range r
  rw [hv] at g0 g1 g2
  clear hv h
  rcases g2 with rfl | ⟨g2, g3⟩
  · go_enter Tryd.func5, Tryd.ntmps5
    go_wp2_with (first | (go_at_call 8; refine hO.mono ?_; rintro e w1 ⟨rfl, hb1⟩) | (go_at_call 7; refine (hA w1 hb1).mono ?_; rintro e w2 ⟨rfl, hb2⟩))
    all_goals go_ret
    all_goals exact ⟨by first | rfl | (refine ret_bool ?_; simp), hb1.trans hb2⟩
  · have q0 : 128 ≤ r := by omega
    have q1 : r < 1114112 := by omega
    go_enter Tryd.func5, Tryd.ntmps5
    go_wp2_with (first | (go_at_call 8; refine hO.mono ?_; rintro e w1 ⟨rfl, hb1⟩) | (go_at_call 7; refine (hA w1 hb1).mono ?_; rintro e w2 ⟨rfl, hb2⟩))
    all_goals go_ret
    all_goals exact ⟨by first | rfl | (refine ret_bool ?_; simp; omega), hb1.trans hb2⟩

theorem steps_are (k : Int) (h0 : 0 ≤ k) (h8 : k < 8) : cls (1456 + k) = 10 + k ∧ cls (1611 + k) = 27 + k ∧ cls (768 + k) = 230 ∧ cls (12441 + k % 2) = 8 := by
  obtain rfl | rfl | rfl | rfl | rfl | rfl | rfl | rfl : k = 0 ∨ k = 1 ∨ k = 2 ∨ k = 3 ∨ k = 4 ∨ k = 5 ∨ k = 6 ∨ k = 7 := by omega
  all_goals exact ⟨by kernel_rfl, by kernel_rfl, by kernel_rfl, by kernel_rfl⟩

set_option maxRecDepth 100000 in
set_option maxHeartbeats 2000000 in
theorem walk_steps (n : Int) (w : World) (h : Sp w) (hn : 0 ≤ n ∧ n < 256) : Calls Tryd.prog 6 #[.int .u8 n] w fun e w' => e = .returned (.bool true) ∧ Bel w w' := by
  obtain ⟨k, hk⟩ : ∃ k, n % 8 = k := ⟨_, rfl⟩
  obtain ⟨m, hm⟩ : ∃ m, k % 2 = m := ⟨_, rfl⟩
  have k0 : 0 ≤ k := by omega
  have k8 : k < 8 := by omega
  have m0 : 0 ≤ m := by omega
  have m2 : m < 2 := by omega
  obtain ⟨s1, s2, s3, s4⟩ := steps_are k k0 k8
  rw [hm] at s4
  have HH := Lib.hid h
  have hA := answers_any w h
  have hO : ∀ (x v : Int) (w1 : World), cls x = v → Bel w w1 → Calls Tryd.prog 8 #[.int .i32 x] w1 (IntIs w1 v) := fun x v w1 hx hb => of_is x v w1 (HH.out.bel hb) hx
  have H1 := Lib.hid s1
  have H2 := Lib.hid s2
  have H3 := Lib.hid s3
  have H4 := Lib.hid s4
  clear h s1 s2 s3 s4
  have q1 : ((10 : Int) + k == 10 + k) = true := by simp
  have q2 : ((27 : Int) + k == 27 + k) = true := by simp
  go_enter Tryd.func6, Tryd.ntmps6
  go_wp2_with (go_at_call 7; refine hA.mono ?_; rintro e w1 ⟨rfl, hb1⟩)
  refine (hO (1456 + k) (10 + k) w1 H1.out hb1).mono ?_
  rintro e w2 ⟨rfl, hc2⟩
  have hb2 := hb1.trans hc2
  go_wp2_with fail
  refine (hO (1611 + k) (27 + k) w2 H2.out hb2).mono ?_
  rintro e w3 ⟨rfl, hc3⟩
  have hb3 := hb2.trans hc3
  go_wp2_with fail
  refine (hO (1464) (18) w3 (by kernel_rfl) hb3).mono ?_
  rintro e w4 ⟨rfl, hc4⟩
  have hb4 := hb3.trans hc4
  go_wp2_with fail
  refine (hO (768 + k) (230) w4 H3.out hb4).mono ?_
  rintro e w5 ⟨rfl, hc5⟩
  have hb5 := hb4.trans hc5
  go_wp2_with fail
  refine (hO (12441 + m) (8) w5 H4.out hb5).mono ?_
  rintro e w6 ⟨rfl, hc6⟩
  have hb6 := hb5.trans hc6
  go_wp2
  go_ret
  exact ⟨rfl, hb6⟩
end Go.Proofs.YtkbiogbaaomcdaaDoor.U
