/- The law ScriptsMarks' walk. Tables as they are laid. -/
import Derived.Test.YtdjaacmaljcnhaaDoorWScripts
import Derived.Test.YtdjaacmaljcnhaaDoorRefOf
namespace Go.Proofs.YtdjaacmaljcnhaaDoor.U
open Go.RowKit
set_option linter.unusedVariables false

set_option maxRecDepth 100000 in
set_option maxHeartbeats 2000000 in
theorem marks_0_0 (c n : Int) (w : World) (hT : Tz w) (hc : c % 6 = 0) (c0 : 0 ≤ c) (c1 : c ≤ 255) (n0 : 0 ≤ n) (n1 : n ≤ 255) (f0 : n ≤ 39) (hw : wantS 0 n = true) :
    Calls Tryd.prog 6 #[.int .u8 c, .int .u8 n] w fun e w' => e = .returned (.bool true) ∧ Bel w w' := by
  obtain ⟨x, ok, hx⟩ : ∃ x ok, look (tabS 0) n = (x, ok) := ⟨_, _, rfl⟩
  have HX := Lib.hid (fun w h => rune_as 0 3 n x ok w (by decide) rfl hx h)
  have HT := Lib.hid hT
  have x0 := look_fit (fineS 0) hx
  have hm : ok = true → decide (0 < cls x) = true := fun e => by rw [← hw]; exact look_marksS (by decide) (by rw [hx, e])
  have HC := Lib.hid (fun w => rclass_is x (cls x) w ⟨by omega, by omega⟩ rfl)
  have v0 := cls_low x
  generalize cls x = v at hm HC v0
  obtain ⟨v0, v1⟩ := v0
  clear hT hx hw
  go_enter Tryd.func6, Tryd.ntmps6
  go_wp2_with fail
  with_reducible refine (HX.out _ HT.out).mono ?_
  rintro e w1 ⟨rfl, hb1⟩
  have HT1 := Lib.hid (HT.out.bel hb1)
  go_wp2_with fail
  with_reducible refine (answers10_is _ HT1.out).mono ?_
  rintro e w2 ⟨rfl, hb2⟩
  have HB := Lib.hid (hb1.trans hb2)
  clear hb1 hb2 HX HT HT1
  cases ok with
  | false =>
    clear hm
    go_wp2
    go_ret
    exact ⟨rfl, HB.out⟩
  | true =>
    have hv : 0 < v := by simpa using hm rfl
    clear hm
    go_wp2_with fail
    with_reducible refine (HC.out _).mono ?_
    rintro e w3 ⟨rfl, hb3⟩
    have HB3 := Lib.hid (HB.out.trans hb3)
    clear hb3 HC HB
    go_wp2
    go_ret
    refine ⟨ret_bool ?_, HB3.out⟩
    first
    | rfl
    | (rw [decide_eq_false (show ¬ 0 < v by omega)]; first | rfl | (simp; done) | (simp; omega) | (simp [f2]; done))
set_option maxRecDepth 100000 in
set_option maxHeartbeats 2000000 in
theorem marks_0_1 (c n : Int) (w : World) (hT : Tz w) (hc : c % 6 = 0) (c0 : 0 ≤ c) (c1 : c ≤ 255) (n0 : 0 ≤ n) (n1 : n ≤ 255) (f0 : ¬ n ≤ 39) (hw : wantS 0 n = false) :
    Calls Tryd.prog 6 #[.int .u8 c, .int .u8 n] w fun e w' => e = .returned (.bool true) ∧ Bel w w' := by
  obtain ⟨x, ok, hx⟩ : ∃ x ok, look (tabS 0) n = (x, ok) := ⟨_, _, rfl⟩
  have HX := Lib.hid (fun w h => rune_as 0 3 n x ok w (by decide) rfl hx h)
  have HT := Lib.hid hT
  have x0 := look_fit (fineS 0) hx
  have hm : ok = true → decide (0 < cls x) = false := fun e => by rw [← hw]; exact look_marksS (by decide) (by rw [hx, e])
  have HC := Lib.hid (fun w => rclass_is x (cls x) w ⟨by omega, by omega⟩ rfl)
  have v0 := cls_low x
  generalize cls x = v at hm HC v0
  obtain ⟨v0, v1⟩ := v0
  clear hT hx hw
  go_enter Tryd.func6, Tryd.ntmps6
  go_wp2_with fail
  with_reducible refine (HX.out _ HT.out).mono ?_
  rintro e w1 ⟨rfl, hb1⟩
  have HT1 := Lib.hid (HT.out.bel hb1)
  go_wp2_with fail
  with_reducible refine (answers10_is _ HT1.out).mono ?_
  rintro e w2 ⟨rfl, hb2⟩
  have HB := Lib.hid (hb1.trans hb2)
  clear hb1 hb2 HX HT HT1
  cases ok with
  | false =>
    clear hm
    go_wp2
    go_ret
    exact ⟨rfl, HB.out⟩
  | true =>
    have hv : ¬ 0 < v := by simpa using hm rfl
    clear hm
    go_wp2_with fail
    with_reducible refine (HC.out _).mono ?_
    rintro e w3 ⟨rfl, hb3⟩
    have HB3 := Lib.hid (HB.out.trans hb3)
    clear hb3 HC HB
    go_wp2
    go_ret
    refine ⟨ret_bool ?_, HB3.out⟩
    first
    | rfl
    | (rw [decide_eq_false (show ¬ 0 < v by omega)]; first | rfl | (simp; done) | (simp; omega) | (simp [f2]; done))
set_option maxRecDepth 100000 in
set_option maxHeartbeats 2000000 in
theorem marks_1_0 (c n : Int) (w : World) (hT : Tz w) (hc : c % 6 = 1) (c0 : 0 ≤ c) (c1 : c ≤ 255) (n0 : 0 ≤ n) (n1 : n ≤ 255) (f0 : ¬ 64 ≤ n) (hw : wantS 1 n = false) :
    Calls Tryd.prog 6 #[.int .u8 c, .int .u8 n] w fun e w' => e = .returned (.bool true) ∧ Bel w w' := by
  obtain ⟨x, ok, hx⟩ : ∃ x ok, look (tabS 1) n = (x, ok) := ⟨_, _, rfl⟩
  have HX := Lib.hid (fun w h => rune_as 1 4 n x ok w (by decide) rfl hx h)
  have HT := Lib.hid hT
  have x0 := look_fit (fineS 1) hx
  have hm : ok = true → decide (0 < cls x) = false := fun e => by rw [← hw]; exact look_marksS (by decide) (by rw [hx, e])
  have HC := Lib.hid (fun w => rclass_is x (cls x) w ⟨by omega, by omega⟩ rfl)
  have v0 := cls_low x
  generalize cls x = v at hm HC v0
  obtain ⟨v0, v1⟩ := v0
  clear hT hx hw
  go_enter Tryd.func6, Tryd.ntmps6
  go_wp2_with fail
  with_reducible refine (HX.out _ HT.out).mono ?_
  rintro e w1 ⟨rfl, hb1⟩
  have HT1 := Lib.hid (HT.out.bel hb1)
  go_wp2_with fail
  with_reducible refine (answers10_is _ HT1.out).mono ?_
  rintro e w2 ⟨rfl, hb2⟩
  have HB := Lib.hid (hb1.trans hb2)
  clear hb1 hb2 HX HT HT1
  cases ok with
  | false =>
    clear hm
    go_wp2
    go_ret
    exact ⟨rfl, HB.out⟩
  | true =>
    have hv : ¬ 0 < v := by simpa using hm rfl
    clear hm
    go_wp2_with fail
    with_reducible refine (HC.out _).mono ?_
    rintro e w3 ⟨rfl, hb3⟩
    have HB3 := Lib.hid (HB.out.trans hb3)
    clear hb3 HC HB
    go_wp2
    go_ret
    refine ⟨ret_bool ?_, HB3.out⟩
    first
    | rfl
    | (rw [decide_eq_false (show ¬ 0 < v by omega)]; first | rfl | (simp; done) | (simp; omega) | (simp [f2]; done))
set_option maxRecDepth 100000 in
set_option maxHeartbeats 2000000 in
theorem marks_1_1 (c n : Int) (w : World) (hT : Tz w) (hc : c % 6 = 1) (c0 : 0 ≤ c) (c1 : c ≤ 255) (n0 : 0 ≤ n) (n1 : n ≤ 255) (f0 : 64 ≤ n) (f1 : n ≤ 78) (hw : wantS 1 n = true) :
    Calls Tryd.prog 6 #[.int .u8 c, .int .u8 n] w fun e w' => e = .returned (.bool true) ∧ Bel w w' := by
  obtain ⟨x, ok, hx⟩ : ∃ x ok, look (tabS 1) n = (x, ok) := ⟨_, _, rfl⟩
  have HX := Lib.hid (fun w h => rune_as 1 4 n x ok w (by decide) rfl hx h)
  have HT := Lib.hid hT
  have x0 := look_fit (fineS 1) hx
  have hm : ok = true → decide (0 < cls x) = true := fun e => by rw [← hw]; exact look_marksS (by decide) (by rw [hx, e])
  have HC := Lib.hid (fun w => rclass_is x (cls x) w ⟨by omega, by omega⟩ rfl)
  have v0 := cls_low x
  generalize cls x = v at hm HC v0
  obtain ⟨v0, v1⟩ := v0
  clear hT hx hw
  go_enter Tryd.func6, Tryd.ntmps6
  go_wp2_with fail
  with_reducible refine (HX.out _ HT.out).mono ?_
  rintro e w1 ⟨rfl, hb1⟩
  have HT1 := Lib.hid (HT.out.bel hb1)
  go_wp2_with fail
  with_reducible refine (answers10_is _ HT1.out).mono ?_
  rintro e w2 ⟨rfl, hb2⟩
  have HB := Lib.hid (hb1.trans hb2)
  clear hb1 hb2 HX HT HT1
  cases ok with
  | false =>
    clear hm
    go_wp2
    go_ret
    exact ⟨rfl, HB.out⟩
  | true =>
    have hv : 0 < v := by simpa using hm rfl
    clear hm
    go_wp2_with fail
    with_reducible refine (HC.out _).mono ?_
    rintro e w3 ⟨rfl, hb3⟩
    have HB3 := Lib.hid (HB.out.trans hb3)
    clear hb3 HC HB
    go_wp2
    go_ret
    refine ⟨ret_bool ?_, HB3.out⟩
    first
    | rfl
    | (rw [decide_eq_false (show ¬ 0 < v by omega)]; first | rfl | (simp; done) | (simp; omega) | (simp [f2]; done))
set_option maxRecDepth 100000 in
set_option maxHeartbeats 2000000 in
theorem marks_1_2 (c n : Int) (w : World) (hT : Tz w) (hc : c % 6 = 1) (c0 : 0 ≤ c) (c1 : c ≤ 255) (n0 : 0 ≤ n) (n1 : n ≤ 255) (f0 : 64 ≤ n) (f1 : ¬ n ≤ 78) (hw : wantS 1 n = false) :
    Calls Tryd.prog 6 #[.int .u8 c, .int .u8 n] w fun e w' => e = .returned (.bool true) ∧ Bel w w' := by
  obtain ⟨x, ok, hx⟩ : ∃ x ok, look (tabS 1) n = (x, ok) := ⟨_, _, rfl⟩
  have HX := Lib.hid (fun w h => rune_as 1 4 n x ok w (by decide) rfl hx h)
  have HT := Lib.hid hT
  have x0 := look_fit (fineS 1) hx
  have hm : ok = true → decide (0 < cls x) = false := fun e => by rw [← hw]; exact look_marksS (by decide) (by rw [hx, e])
  have HC := Lib.hid (fun w => rclass_is x (cls x) w ⟨by omega, by omega⟩ rfl)
  have v0 := cls_low x
  generalize cls x = v at hm HC v0
  obtain ⟨v0, v1⟩ := v0
  clear hT hx hw
  go_enter Tryd.func6, Tryd.ntmps6
  go_wp2_with fail
  with_reducible refine (HX.out _ HT.out).mono ?_
  rintro e w1 ⟨rfl, hb1⟩
  have HT1 := Lib.hid (HT.out.bel hb1)
  go_wp2_with fail
  with_reducible refine (answers10_is _ HT1.out).mono ?_
  rintro e w2 ⟨rfl, hb2⟩
  have HB := Lib.hid (hb1.trans hb2)
  clear hb1 hb2 HX HT HT1
  cases ok with
  | false =>
    clear hm
    go_wp2
    go_ret
    exact ⟨rfl, HB.out⟩
  | true =>
    have hv : ¬ 0 < v := by simpa using hm rfl
    clear hm
    go_wp2_with fail
    with_reducible refine (HC.out _).mono ?_
    rintro e w3 ⟨rfl, hb3⟩
    have HB3 := Lib.hid (HB.out.trans hb3)
    clear hb3 HC HB
    go_wp2
    go_ret
    refine ⟨ret_bool ?_, HB3.out⟩
    first
    | rfl
    | (rw [decide_eq_false (show ¬ 0 < v by omega)]; first | rfl | (simp; done) | (simp; omega) | (simp [f2]; done))
set_option maxRecDepth 100000 in
set_option maxHeartbeats 2000000 in
theorem marks_2_0 (c n : Int) (w : World) (hT : Tz w) (hc : c % 6 = 2) (c0 : 0 ≤ c) (c1 : c ≤ 255) (n0 : 0 ≤ n) (n1 : n ≤ 255) (f0 : ¬ 107 ≤ n) (hw : wantS 2 n = false) :
    Calls Tryd.prog 6 #[.int .u8 c, .int .u8 n] w fun e w' => e = .returned (.bool true) ∧ Bel w w' := by
  obtain ⟨x, ok, hx⟩ : ∃ x ok, look (tabS 2) n = (x, ok) := ⟨_, _, rfl⟩
  have HX := Lib.hid (fun w h => rune_as 2 5 n x ok w (by decide) rfl hx h)
  have HT := Lib.hid hT
  have x0 := look_fit (fineS 2) hx
  have hm : ok = true → decide (0 < cls x) = false := fun e => by rw [← hw]; exact look_marksS (by decide) (by rw [hx, e])
  have HC := Lib.hid (fun w => rclass_is x (cls x) w ⟨by omega, by omega⟩ rfl)
  have v0 := cls_low x
  generalize cls x = v at hm HC v0
  obtain ⟨v0, v1⟩ := v0
  clear hT hx hw
  go_enter Tryd.func6, Tryd.ntmps6
  go_wp2_with fail
  with_reducible refine (HX.out _ HT.out).mono ?_
  rintro e w1 ⟨rfl, hb1⟩
  have HT1 := Lib.hid (HT.out.bel hb1)
  go_wp2_with fail
  with_reducible refine (answers10_is _ HT1.out).mono ?_
  rintro e w2 ⟨rfl, hb2⟩
  have HB := Lib.hid (hb1.trans hb2)
  clear hb1 hb2 HX HT HT1
  cases ok with
  | false =>
    clear hm
    go_wp2
    go_ret
    exact ⟨rfl, HB.out⟩
  | true =>
    have hv : ¬ 0 < v := by simpa using hm rfl
    clear hm
    go_wp2_with fail
    with_reducible refine (HC.out _).mono ?_
    rintro e w3 ⟨rfl, hb3⟩
    have HB3 := Lib.hid (HB.out.trans hb3)
    clear hb3 HC HB
    go_wp2
    go_ret
    refine ⟨ret_bool ?_, HB3.out⟩
    first
    | rfl
    | (rw [decide_eq_false (show ¬ 0 < v by omega)]; first | rfl | (simp; done) | (simp; omega) | (simp [f2]; done))
set_option maxRecDepth 100000 in
set_option maxHeartbeats 2000000 in
theorem marks_2_1 (c n : Int) (w : World) (hT : Tz w) (hc : c % 6 = 2) (c0 : 0 ≤ c) (c1 : c ≤ 255) (n0 : 0 ≤ n) (n1 : n ≤ 255) (f0 : 107 ≤ n) (f1 : n ≤ 114) (hw : wantS 2 n = true) :
    Calls Tryd.prog 6 #[.int .u8 c, .int .u8 n] w fun e w' => e = .returned (.bool true) ∧ Bel w w' := by
  obtain ⟨x, ok, hx⟩ : ∃ x ok, look (tabS 2) n = (x, ok) := ⟨_, _, rfl⟩
  have HX := Lib.hid (fun w h => rune_as 2 5 n x ok w (by decide) rfl hx h)
  have HT := Lib.hid hT
  have x0 := look_fit (fineS 2) hx
  have hm : ok = true → decide (0 < cls x) = true := fun e => by rw [← hw]; exact look_marksS (by decide) (by rw [hx, e])
  have HC := Lib.hid (fun w => rclass_is x (cls x) w ⟨by omega, by omega⟩ rfl)
  have v0 := cls_low x
  generalize cls x = v at hm HC v0
  obtain ⟨v0, v1⟩ := v0
  clear hT hx hw
  go_enter Tryd.func6, Tryd.ntmps6
  go_wp2_with fail
  with_reducible refine (HX.out _ HT.out).mono ?_
  rintro e w1 ⟨rfl, hb1⟩
  have HT1 := Lib.hid (HT.out.bel hb1)
  go_wp2_with fail
  with_reducible refine (answers10_is _ HT1.out).mono ?_
  rintro e w2 ⟨rfl, hb2⟩
  have HB := Lib.hid (hb1.trans hb2)
  clear hb1 hb2 HX HT HT1
  cases ok with
  | false =>
    clear hm
    go_wp2
    go_ret
    exact ⟨rfl, HB.out⟩
  | true =>
    have hv : 0 < v := by simpa using hm rfl
    clear hm
    go_wp2_with fail
    with_reducible refine (HC.out _).mono ?_
    rintro e w3 ⟨rfl, hb3⟩
    have HB3 := Lib.hid (HB.out.trans hb3)
    clear hb3 HC HB
    go_wp2
    go_ret
    refine ⟨ret_bool ?_, HB3.out⟩
    first
    | rfl
    | (rw [decide_eq_false (show ¬ 0 < v by omega)]; first | rfl | (simp; done) | (simp; omega) | (simp [f2]; done))
set_option maxRecDepth 100000 in
set_option maxHeartbeats 2000000 in
theorem marks_2_2 (c n : Int) (w : World) (hT : Tz w) (hc : c % 6 = 2) (c0 : 0 ≤ c) (c1 : c ≤ 255) (n0 : 0 ≤ n) (n1 : n ≤ 255) (f0 : 107 ≤ n) (f1 : ¬ n ≤ 114) (f2 : (n == 116) = true) (hw : wantS 2 n = true) :
    Calls Tryd.prog 6 #[.int .u8 c, .int .u8 n] w fun e w' => e = .returned (.bool true) ∧ Bel w w' := by
  obtain ⟨x, ok, hx⟩ : ∃ x ok, look (tabS 2) n = (x, ok) := ⟨_, _, rfl⟩
  have HX := Lib.hid (fun w h => rune_as 2 5 n x ok w (by decide) rfl hx h)
  have HT := Lib.hid hT
  have x0 := look_fit (fineS 2) hx
  have hm : ok = true → decide (0 < cls x) = true := fun e => by rw [← hw]; exact look_marksS (by decide) (by rw [hx, e])
  have HC := Lib.hid (fun w => rclass_is x (cls x) w ⟨by omega, by omega⟩ rfl)
  have v0 := cls_low x
  generalize cls x = v at hm HC v0
  obtain ⟨v0, v1⟩ := v0
  clear hT hx hw
  go_enter Tryd.func6, Tryd.ntmps6
  go_wp2_with fail
  with_reducible refine (HX.out _ HT.out).mono ?_
  rintro e w1 ⟨rfl, hb1⟩
  have HT1 := Lib.hid (HT.out.bel hb1)
  go_wp2_with fail
  with_reducible refine (answers10_is _ HT1.out).mono ?_
  rintro e w2 ⟨rfl, hb2⟩
  have HB := Lib.hid (hb1.trans hb2)
  clear hb1 hb2 HX HT HT1
  cases ok with
  | false =>
    clear hm
    go_wp2
    go_ret
    exact ⟨rfl, HB.out⟩
  | true =>
    have hv : 0 < v := by simpa using hm rfl
    clear hm
    go_wp2_with fail
    with_reducible refine (HC.out _).mono ?_
    rintro e w3 ⟨rfl, hb3⟩
    have HB3 := Lib.hid (HB.out.trans hb3)
    clear hb3 HC HB
    go_wp2
    go_ret
    refine ⟨ret_bool ?_, HB3.out⟩
    first
    | rfl
    | (rw [decide_eq_false (show ¬ 0 < v by omega)]; first | rfl | (simp; done) | (simp; omega) | (simp [f2]; done))
set_option maxRecDepth 100000 in
set_option maxHeartbeats 2000000 in
theorem marks_2_3 (c n : Int) (w : World) (hT : Tz w) (hc : c % 6 = 2) (c0 : 0 ≤ c) (c1 : c ≤ 255) (n0 : 0 ≤ n) (n1 : n ≤ 255) (f0 : 107 ≤ n) (f1 : ¬ n ≤ 114) (f2 : (n == 116) = false) (hw : wantS 2 n = false) :
    Calls Tryd.prog 6 #[.int .u8 c, .int .u8 n] w fun e w' => e = .returned (.bool true) ∧ Bel w w' := by
  obtain ⟨x, ok, hx⟩ : ∃ x ok, look (tabS 2) n = (x, ok) := ⟨_, _, rfl⟩
  have HX := Lib.hid (fun w h => rune_as 2 5 n x ok w (by decide) rfl hx h)
  have HT := Lib.hid hT
  have x0 := look_fit (fineS 2) hx
  have hm : ok = true → decide (0 < cls x) = false := fun e => by rw [← hw]; exact look_marksS (by decide) (by rw [hx, e])
  have HC := Lib.hid (fun w => rclass_is x (cls x) w ⟨by omega, by omega⟩ rfl)
  have v0 := cls_low x
  generalize cls x = v at hm HC v0
  obtain ⟨v0, v1⟩ := v0
  clear hT hx hw
  go_enter Tryd.func6, Tryd.ntmps6
  go_wp2_with fail
  with_reducible refine (HX.out _ HT.out).mono ?_
  rintro e w1 ⟨rfl, hb1⟩
  have HT1 := Lib.hid (HT.out.bel hb1)
  go_wp2_with fail
  with_reducible refine (answers10_is _ HT1.out).mono ?_
  rintro e w2 ⟨rfl, hb2⟩
  have HB := Lib.hid (hb1.trans hb2)
  clear hb1 hb2 HX HT HT1
  cases ok with
  | false =>
    clear hm
    go_wp2
    go_ret
    exact ⟨rfl, HB.out⟩
  | true =>
    have hv : ¬ 0 < v := by simpa using hm rfl
    clear hm
    go_wp2_with fail
    with_reducible refine (HC.out _).mono ?_
    rintro e w3 ⟨rfl, hb3⟩
    have HB3 := Lib.hid (HB.out.trans hb3)
    clear hb3 HC HB
    go_wp2
    go_ret
    refine ⟨ret_bool ?_, HB3.out⟩
    first
    | rfl
    | (rw [decide_eq_false (show ¬ 0 < v by omega)]; first | rfl | (simp; done) | (simp; omega) | (simp [f2]; done))
set_option maxRecDepth 100000 in
set_option maxHeartbeats 2000000 in
theorem marks_3_0 (c n : Int) (w : World) (hT : Tz w) (hc : c % 6 = 3) (c0 : 0 ≤ c) (c1 : c ≤ 255) (n0 : 0 ≤ n) (n1 : n ≤ 255) (hw : wantS 3 n = false) :
    Calls Tryd.prog 6 #[.int .u8 c, .int .u8 n] w fun e w' => e = .returned (.bool true) ∧ Bel w w' := by
  obtain ⟨x, ok, hx⟩ : ∃ x ok, look (tabS 3) n = (x, ok) := ⟨_, _, rfl⟩
  have HX := Lib.hid (fun w h => rune_as 3 6 n x ok w (by decide) rfl hx h)
  have HT := Lib.hid hT
  have x0 := look_fit (fineS 3) hx
  have hm : ok = true → decide (0 < cls x) = false := fun e => by rw [← hw]; exact look_marksS (by decide) (by rw [hx, e])
  have HC := Lib.hid (fun w => rclass_is x (cls x) w ⟨by omega, by omega⟩ rfl)
  have v0 := cls_low x
  generalize cls x = v at hm HC v0
  obtain ⟨v0, v1⟩ := v0
  clear hT hx hw
  go_enter Tryd.func6, Tryd.ntmps6
  go_wp2_with fail
  with_reducible refine (HX.out _ HT.out).mono ?_
  rintro e w1 ⟨rfl, hb1⟩
  have HT1 := Lib.hid (HT.out.bel hb1)
  go_wp2_with fail
  with_reducible refine (answers10_is _ HT1.out).mono ?_
  rintro e w2 ⟨rfl, hb2⟩
  have HB := Lib.hid (hb1.trans hb2)
  clear hb1 hb2 HX HT HT1
  cases ok with
  | false =>
    clear hm
    go_wp2
    go_ret
    exact ⟨rfl, HB.out⟩
  | true =>
    have hv : ¬ 0 < v := by simpa using hm rfl
    clear hm
    go_wp2_with fail
    with_reducible refine (HC.out _).mono ?_
    rintro e w3 ⟨rfl, hb3⟩
    have HB3 := Lib.hid (HB.out.trans hb3)
    clear hb3 HC HB
    go_wp2
    go_ret
    refine ⟨ret_bool ?_, HB3.out⟩
    first
    | rfl
    | (rw [decide_eq_false (show ¬ 0 < v by omega)]; first | rfl | (simp; done) | (simp; omega) | (simp [f2]; done))
set_option maxRecDepth 100000 in
set_option maxHeartbeats 2000000 in
theorem marks_4_0 (c n : Int) (w : World) (hT : Tz w) (hc : c % 6 = 4) (c0 : 0 ≤ c) (c1 : c ≤ 255) (n0 : 0 ≤ n) (n1 : n ≤ 255) (hw : wantS 4 n = false) :
    Calls Tryd.prog 6 #[.int .u8 c, .int .u8 n] w fun e w' => e = .returned (.bool true) ∧ Bel w w' := by
  obtain ⟨x, ok, hx⟩ : ∃ x ok, look (tabS 4) n = (x, ok) := ⟨_, _, rfl⟩
  have HX := Lib.hid (fun w h => rune_as 4 7 n x ok w (by decide) rfl hx h)
  have HT := Lib.hid hT
  have x0 := look_fit (fineS 4) hx
  have hm : ok = true → decide (0 < cls x) = false := fun e => by rw [← hw]; exact look_marksS (by decide) (by rw [hx, e])
  have HC := Lib.hid (fun w => rclass_is x (cls x) w ⟨by omega, by omega⟩ rfl)
  have v0 := cls_low x
  generalize cls x = v at hm HC v0
  obtain ⟨v0, v1⟩ := v0
  clear hT hx hw
  go_enter Tryd.func6, Tryd.ntmps6
  go_wp2_with fail
  with_reducible refine (HX.out _ HT.out).mono ?_
  rintro e w1 ⟨rfl, hb1⟩
  have HT1 := Lib.hid (HT.out.bel hb1)
  go_wp2_with fail
  with_reducible refine (answers10_is _ HT1.out).mono ?_
  rintro e w2 ⟨rfl, hb2⟩
  have HB := Lib.hid (hb1.trans hb2)
  clear hb1 hb2 HX HT HT1
  cases ok with
  | false =>
    clear hm
    go_wp2
    go_ret
    exact ⟨rfl, HB.out⟩
  | true =>
    have hv : ¬ 0 < v := by simpa using hm rfl
    clear hm
    go_wp2_with fail
    with_reducible refine (HC.out _).mono ?_
    rintro e w3 ⟨rfl, hb3⟩
    have HB3 := Lib.hid (HB.out.trans hb3)
    clear hb3 HC HB
    go_wp2
    go_ret
    refine ⟨ret_bool ?_, HB3.out⟩
    first
    | rfl
    | (rw [decide_eq_false (show ¬ 0 < v by omega)]; first | rfl | (simp; done) | (simp; omega) | (simp [f2]; done))
set_option maxRecDepth 100000 in
set_option maxHeartbeats 2000000 in
theorem marks_5_0 (c n : Int) (w : World) (hT : Tz w) (hc : c % 6 = 5) (c0 : 0 ≤ c) (c1 : c ≤ 255) (n0 : 0 ≤ n) (n1 : n ≤ 255) (hw : wantS 5 n = false) :
    Calls Tryd.prog 6 #[.int .u8 c, .int .u8 n] w fun e w' => e = .returned (.bool true) ∧ Bel w w' := by
  obtain ⟨x, ok, hx⟩ : ∃ x ok, look (tabS 5) n = (x, ok) := ⟨_, _, rfl⟩
  have HX := Lib.hid (fun w h => rune_as 5 8 n x ok w (by decide) rfl hx h)
  have HT := Lib.hid hT
  have x0 := look_fit (fineS 5) hx
  have hm : ok = true → decide (0 < cls x) = false := fun e => by rw [← hw]; exact look_marksS (by decide) (by rw [hx, e])
  have HC := Lib.hid (fun w => rclass_is x (cls x) w ⟨by omega, by omega⟩ rfl)
  have v0 := cls_low x
  generalize cls x = v at hm HC v0
  obtain ⟨v0, v1⟩ := v0
  clear hT hx hw
  go_enter Tryd.func6, Tryd.ntmps6
  go_wp2_with fail
  with_reducible refine (HX.out _ HT.out).mono ?_
  rintro e w1 ⟨rfl, hb1⟩
  have HT1 := Lib.hid (HT.out.bel hb1)
  go_wp2_with fail
  with_reducible refine (answers10_is _ HT1.out).mono ?_
  rintro e w2 ⟨rfl, hb2⟩
  have HB := Lib.hid (hb1.trans hb2)
  clear hb1 hb2 HX HT HT1
  cases ok with
  | false =>
    clear hm
    go_wp2
    go_ret
    exact ⟨rfl, HB.out⟩
  | true =>
    have hv : ¬ 0 < v := by simpa using hm rfl
    clear hm
    go_wp2_with fail
    with_reducible refine (HC.out _).mono ?_
    rintro e w3 ⟨rfl, hb3⟩
    have HB3 := Lib.hid (HB.out.trans hb3)
    clear hb3 HC HB
    go_wp2
    go_ret
    refine ⟨ret_bool ?_, HB3.out⟩
    first
    | rfl
    | (rw [decide_eq_false (show ¬ 0 < v by omega)]; first | rfl | (simp; done) | (simp; omega) | (simp [f2]; done))
theorem scriptsMarks_walk (c n : Int) (w : World) (hT : Tz w) (c0 : 0 ≤ c) (c1 : c ≤ 255) (n0 : 0 ≤ n) (n1 : n ≤ 255) :
    Calls Tryd.prog 6 #[.int .u8 c, .int .u8 n] w fun e w' => e = .returned (.bool true) ∧ Bel w w' := by
  obtain h | h | h | h | h | h : c % 6 = 0 ∨ c % 6 = 1 ∨ c % 6 = 2 ∨ c % 6 = 3 ∨ c % 6 = 4 ∨ c % 6 = 5 := by omega
  · by_cases f0 : n ≤ 39
    · exact marks_0_0 c n w hT h c0 c1 n0 n1 f0 (by simp [wantS, f0])
    · exact marks_0_1 c n w hT h c0 c1 n0 n1 f0 (by simp [wantS, f0])
  · by_cases f0 : 64 ≤ n
    · by_cases f1 : n ≤ 78
      · exact marks_1_1 c n w hT h c0 c1 n0 n1 f0 f1 (by simp [wantS, f0, f1])
      · exact marks_1_2 c n w hT h c0 c1 n0 n1 f0 f1 (by simp [wantS, f0, f1])
    · exact marks_1_0 c n w hT h c0 c1 n0 n1 f0 (by simp [wantS, f0])
  · by_cases f0 : 107 ≤ n
    · by_cases f1 : n ≤ 114
      · exact marks_2_1 c n w hT h c0 c1 n0 n1 f0 f1 (by simp [wantS, f0, f1])
      · by_cases f2 : n = 116
        · exact marks_2_2 c n w hT h c0 c1 n0 n1 f0 f1 (by simp [f2]) (by simp [wantS, f2])
        · exact marks_2_3 c n w hT h c0 c1 n0 n1 f0 f1 (by simp [f2]) (by simp [wantS, f1, f2])
    · exact marks_2_0 c n w hT h c0 c1 n0 n1 f0 (by simp [wantS]; omega)
  · exact marks_3_0 c n w hT h c0 c1 n0 n1 rfl
  · exact marks_4_0 c n w hT h c0 c1 n0 n1 rfl
  · exact marks_5_0 c n w hT h c0 c1 n0 n1 rfl
end Go.Proofs.YtdjaacmaljcnhaaDoor.U
