/- ClassOf answers true, where the table of spans lies in its variable. -/
import Derived.Test.YtkbiogbaaomcdaaDoorRefOf
namespace Go.Proofs.YtkbiogbaaomcdaaDoor.U
open Go.RowKit
set_option linter.unusedVariables false

set_option maxRecDepth 100000 in
set_option maxHeartbeats 4000000 in
theorem walk_of (r : Int) (w : World) (h : Sp w) (hr : -2147483648 ≤ r ∧ r ≤ 2147483647) : Calls Tryd.prog 3 #[.int .i32 r] w fun e w' => e = .returned (.bool true) ∧ Bel w w' := by
  obtain ⟨v, hv⟩ : ∃ v, cls r = v := ⟨_, rfl⟩
  obtain ⟨b, hb⟩ : ∃ b, decide (0 < v) = b := ⟨_, rfl⟩
  have HH := Lib.hid h
  have HV := Lib.hid hv
  have HB := Lib.hid hb
  clear h hv hb
  have hvv : (v == v) = true := by simp
  have hbb : (b == b) = true := by simp
  go_enter Tryd.func3, Tryd.ntmps3
  go_wp2_with fail
  refine (answers_any w HH.out).mono ?_
  rintro e w1 ⟨rfl, hb1⟩
  go_wp2_with fail
  refine (of_is r v w1 (HH.out.bel hb1) HV.out).mono ?_
  rintro e w2 ⟨rfl, hc2⟩
  have hb2 := hb1.trans hc2
  go_wp2_with fail
  refine (rclass_is r v w2 hr HV.out).mono ?_
  rintro e w3 ⟨rfl, hc3⟩
  have hb3 := hb2.trans hc3
  go_wp2_with fail
  refine (mark_is r b w3 (HH.out.bel hb3) (by rw [HV.out]; exact HB.out)).mono ?_
  rintro e w4 ⟨rfl, hc4⟩
  have hb4 := hb3.trans hc4
  go_wp2_with fail
  refine (rclass_is r v w4 hr HV.out).mono ?_
  rintro e w5 ⟨rfl, hc5⟩
  have hb5 := hb4.trans hc5
  have hd := HB.out
  go_wp2
  go_ret
  exact ⟨rfl, hb5⟩
end Go.Proofs.YtkbiogbaaomcdaaDoor.U
