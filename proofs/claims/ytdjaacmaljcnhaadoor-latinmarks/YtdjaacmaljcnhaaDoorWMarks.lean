/- The law LatinMarks' walk. Tables as they are laid. -/
import Derived.Test.YtdjaacmaljcnhaaDoorWApart
import Derived.Test.YtdjaacmaljcnhaaDoorRefOf
namespace Go.Proofs.YtdjaacmaljcnhaaDoor.U
open Go.RowKit
set_option linter.unusedVariables false

set_option maxRecDepth 100000 in
set_option maxHeartbeats 2000000 in
theorem latinMarks_walk (n : Int) (w : World) (hT : Tz w) (n0 : 0 ≤ n) (n1 : n ≤ 255) :
    Calls Tryd.prog 4 #[.int .u8 n] w fun e w' => e = .returned (.bool true) ∧ Bel w w' := by
  obtain ⟨x, ok, hx⟩ : ∃ x ok, look tabA n = (x, ok) := ⟨_, _, rfl⟩
  have HX := Lib.hid (fun w h => ansel_as n x ok w hx h)
  have HT := Lib.hid hT
  have x0 := look_fit fineA hx
  have hm : ok = true → decide (0 < cls x) = decide (96 ≤ n) := fun e => look_marks (by rw [hx, e])
  have HC := Lib.hid (fun w => rclass_is x (cls x) w ⟨by omega, by omega⟩ rfl)
  have c0 := cls_low x
  generalize cls x = v at hm HC c0
  obtain ⟨c0, c1⟩ := c0
  clear hT hx
  go_enter Tryd.func4, Tryd.ntmps4
  go_wp2_with fail
  with_reducible refine (HX.out _ HT.out).mono ?_
  rintro e w1 ⟨rfl, hb1⟩
  have HT1 := Lib.hid (HT.out.bel hb1)
  go_wp2_with fail
  with_reducible refine (answers_is _ HT1.out).mono ?_
  rintro e w2 ⟨rfl, hb2⟩
  have HB := Lib.hid (hb1.trans hb2)
  clear hb1 hb2 HX HT HT1
  cases ok with
  | false =>
    clear hm
    go_wp2
    go_ret
    exact ⟨rfl, HB.out⟩
  | true =>
    have hm' := hm rfl
    clear hm
    go_wp2_with fail
    with_reducible refine (HC.out _).mono ?_
    rintro e w3 ⟨rfl, hb3⟩
    have HB3 := Lib.hid (HB.out.trans hb3)
    clear hb3 HC HB
    by_cases h : 96 ≤ n
    · have hv : 0 < v := by simpa [h] using hm'
      clear hm'
      go_wp2
      go_ret
      exact ⟨rfl, HB3.out⟩
    · have hv : ¬ 0 < v := by simpa [h] using hm'
      clear hm'
      go_wp2
      go_ret
      exact ⟨ret_bool (show (decide (0 < v) == decide (96 ≤ n)) = true by rw [decide_eq_false (by omega), decide_eq_false (by omega)]; rfl), HB3.out⟩
end Go.Proofs.YtdjaacmaljcnhaaDoor.U
