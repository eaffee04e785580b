/- What latin.Basic and the law's own helper answer; the law LatinApart's walk. Tables as they are laid. -/
import Derived.Test.YtdjaacmaljcnhaaDoorAnsel
namespace Go.Proofs.YtdjaacmaljcnhaaDoor.U
open Go.RowKit
set_option linter.unusedVariables false

theorem ansel_as (n r : Int) (b : Bool) (w : World) (h : look tabA n = (r, b)) (hT : Tz w) (hn : n ≤ 9223372036854775807 := by omega) : Calls Tryd.prog 8 #[.int .i64 n] w fun e w' => e = .returned (.tuple #[.int .i32 r, .bool b]) ∧ Bel w w' := by
  have := ansel_is n hn w hT
  rwa [h] at this

theorem basic_yes (n : Int) (w : World) (h0 : 33 ≤ n) (h1 : n ≤ 126) : Calls Tryd.prog 9 #[.int .i64 n] w fun e w' => e = .returned (.tuple #[.int .i32 n, .bool true]) ∧ w' = w := by
  go_enter Tryd.func9, Tryd.ntmps9
  go_wp2
  go_ret2
  exact ⟨rfl, rfl⟩
theorem basic_no (n : Int) (w : World) (h : n < 33 ∨ 126 < n) : Calls Tryd.prog 9 #[.int .i64 n] w fun e w' => e = .returned (.tuple #[.int .i32 0, .bool false]) ∧ w' = w := by
  rcases h with h | h
  · go_enter Tryd.func9, Tryd.ntmps9
    go_wp2
    go_ret2
    exact ⟨rfl, rfl⟩
  · have h' : ¬ n < 33 := by omega
    go_enter Tryd.func9, Tryd.ntmps9
    go_wp2
    go_ret2
    exact ⟨rfl, rfl⟩
theorem basic_any (n : Int) (w : World) : ∃ z fine, (fine = true → z = n) ∧ 0 ≤ z ∧ z ≤ 126 ∧ ∀ w, Calls Tryd.prog 9 #[.int .i64 n] w fun e w' => e = .returned (.tuple #[.int .i32 z, .bool fine]) ∧ w' = w := by
  by_cases h : 33 ≤ n ∧ n ≤ 126
  · exact ⟨n, true, fun _ => rfl, by omega, h.2, fun w => basic_yes n w h.1 h.2⟩
  · exact ⟨0, false, (fun e => by cases e), by omega, by omega, fun w => basic_no n w (by omega)⟩

theorem answers_is (w : World) (hT : Tz w) : Calls Tryd.prog 10 #[] w fun e w' => e = .returned (.bool true) ∧ Bel w w' := by
  have HA := Lib.hid (ansel_as 97 768 true w look_97 hT)
  go_enter Tryd.func10, Tryd.ntmps10
  go_wp2_with fail
  with_reducible refine HA.out.mono ?_
  rintro e w1 ⟨rfl, hb⟩
  go_wp2
  go_ret
  exact ⟨rfl, hb⟩

set_option maxRecDepth 100000 in
set_option maxHeartbeats 2000000 in
theorem latinApart_walk (a b : Int) (w : World) (hT : Tz w) (a0 : 0 ≤ a) (a1 : a ≤ 255) (b0 : 0 ≤ b) (b1 : b ≤ 255) :
    Calls Tryd.prog 3 #[.int .u8 a, .int .u8 b] w fun e w' => e = .returned (.bool true) ∧ Bel w w' := by
  obtain ⟨x, ok, hx⟩ : ∃ x ok, look tabA a = (x, ok) := ⟨_, _, rfl⟩
  obtain ⟨y, yes, hy⟩ : ∃ y yes, look tabA b = (y, yes) := ⟨_, _, rfl⟩
  obtain ⟨z, fine, hz, z0, z1, HZ0⟩ := basic_any b w
  have HZ := Lib.hid HZ0
  have HX := Lib.hid (fun w h => ansel_as a x ok w hx h)
  have HY := Lib.hid (fun w h => ansel_as b y yes w hy h)
  have HT := Lib.hid hT
  have hxy : ok = true → yes = true → (x == y) = (a == b) := fun e1 e2 => look_apart fineA (by rw [hx, e1]) (by rw [hy, e2])
  have hx128 : ok = true → 128 ≤ x := fun e => by
    rw [e] at hx
    have := tabA_row (look_yes hx)
    simp at this
    omega
  have x0 := look_fit fineA hx
  have y0 := look_fit fineA hy
  clear hT hx hy HZ0
  go_enter Tryd.func3, Tryd.ntmps3
  go_wp2_with fail
  with_reducible refine (HX.out _ HT.out).mono ?_
  rintro e w1 ⟨rfl, hb1⟩
  have HT1 := Lib.hid (HT.out.bel hb1)
  go_wp2_with fail
  with_reducible refine (HY.out _ HT1.out).mono ?_
  rintro e w2 ⟨rfl, hb2⟩
  have HT2 := Lib.hid (HT1.out.bel hb2)
  go_wp2_with fail
  with_reducible refine (HZ.out _).mono ?_
  rintro e w3 ⟨rfl, rfl⟩
  go_wp2_with fail
  with_reducible refine (answers_is _ HT2.out).mono ?_
  rintro e w4 ⟨rfl, hb4⟩
  have HB := Lib.hid ((hb1.trans hb2).trans hb4)
  clear hb1 hb2 hb4 HX HY HZ HT HT1 HT2
  have q1 : ok = true → yes = true → ((x == y) == (a == b)) = true := fun e1 e2 => by rw [hxy e1 e2]; simp
  have q2 : ok = true → decide (128 ≤ x) = true := fun e => by simpa using hx128 e
  have q3 : fine = true → (z == b) = true := fun e => by rw [hz e]; simp
  cases ok <;> cases yes <;> cases fine
  all_goals simp only [forall_const, Bool.false_eq_true, false_implies] at q1 q2 q3 hxy hx128 hz
  all_goals try clear q1
  all_goals try clear q2
  all_goals try clear q3
  all_goals go_wp2
  all_goals go_ret
  all_goals refine ⟨ret_bool ?_, HB.out⟩
  all_goals rfl
end Go.Proofs.YtdjaacmaljcnhaaDoor.U
