/- What scripts.Rune and the law's own helper answer; the laws ScriptsApart's and ScriptsCases' walks. Tables as they are laid. -/
import Derived.Test.YtdjaacmaljcnhaaDoorRune
namespace Go.Proofs.YtdjaacmaljcnhaaDoor.U
open Go.RowKit
set_option linter.unusedVariables false

theorem rune_as (s : Nat) (sv n r : Int) (b : Bool) (w : World) (hs : s < 6) (hv : 3 + (s : Int) = sv) (h : look (tabS s) n = (r, b)) (hT : Tz w) (hn : n ≤ 9223372036854775807 := by omega) : Calls Tryd.prog 12 #[.int .i64 sv, .int .i64 n] w fun e w' => e = .returned (.tuple #[.int .i32 r, .bool b]) ∧ Bel w w' := by
  have := rune_is s hs n hn w hT
  rwa [h, hv] at this

theorem answers10_is (w : World) (hT : Tz w) : Calls Tryd.prog 13 #[] w fun e w' => e = .returned (.bool true) ∧ Bel w w' := by
  have HA := Lib.hid (rune_as 4 7 65 1072 true w (by decide) rfl look_c65 hT)
  go_enter Tryd.func13, Tryd.ntmps13
  go_wp2_with fail
  with_reducible refine HA.out.mono ?_
  rintro e w1 ⟨rfl, hb⟩
  go_wp2
  go_ret
  exact ⟨rfl, hb⟩

set_option maxRecDepth 100000 in
set_option maxHeartbeats 2000000 in
theorem scriptsApart_walk (c a b : Int) (w : World) (hT : Tz w) (c0 : 0 ≤ c) (c1 : c ≤ 255) (a0 : 0 ≤ a) (a1 : a ≤ 255) (b0 : 0 ≤ b) (b1 : b ≤ 255) :
    Calls Tryd.prog 5 #[.int .u8 c, .int .u8 a, .int .u8 b] w fun e w' => e = .returned (.bool true) ∧ Bel w w' := by
  obtain ⟨s, hs⟩ : ∃ s : Nat, (s : Int) = c % 6 := ⟨(c % 6).toNat, by omega⟩
  have hs6 : s < 6 := by omega
  obtain ⟨x, ok, hx⟩ : ∃ x ok, look (tabS s) a = (x, ok) := ⟨_, _, rfl⟩
  obtain ⟨y, yes, hy⟩ : ∃ y yes, look (tabS s) b = (y, yes) := ⟨_, _, rfl⟩
  have HX := Lib.hid (fun w h => rune_as s (3 + c % 6) a x ok w hs6 (by rw [hs]) hx h)
  have HY := Lib.hid (fun w h => rune_as s (3 + c % 6) b y yes w hs6 (by rw [hs]) hy h)
  have HT := Lib.hid hT
  have hxy : ok = true → yes = true → (x == y) = (a == b) := fun e1 e2 => look_apart (fineS s) (by rw [hx, e1]) (by rw [hy, e2])
  have x0 := look_fit (fineS s) hx
  have y0 := look_fit (fineS s) hy
  clear hT hx hy hs hs6
  go_enter Tryd.func5, Tryd.ntmps5
  go_wp2_with fail
  with_reducible refine (HX.out _ HT.out).mono ?_
  rintro e w1 ⟨rfl, hb1⟩
  have HT1 := Lib.hid (HT.out.bel hb1)
  go_wp2_with fail
  with_reducible refine (HY.out _ HT1.out).mono ?_
  rintro e w2 ⟨rfl, hb2⟩
  have HT2 := Lib.hid (HT1.out.bel hb2)
  go_wp2_with fail
  with_reducible refine (answers10_is _ HT2.out).mono ?_
  rintro e w4 ⟨rfl, hb4⟩
  have HB := Lib.hid ((hb1.trans hb2).trans hb4)
  clear hb1 hb2 hb4 HX HY HT HT1 HT2
  have q1 : ok = true → yes = true → ((x == y) == (a == b)) = true := fun e1 e2 => by rw [hxy e1 e2]; simp
  cases ok <;> cases yes
  all_goals simp only [forall_const, Bool.false_eq_true, false_implies] at q1 hxy
  all_goals try clear q1
  all_goals go_wp2
  all_goals go_ret
  all_goals refine ⟨ret_bool ?_, HB.out⟩
  all_goals rfl

set_option maxRecDepth 100000 in
set_option maxHeartbeats 2000000 in
theorem scriptsCases_walk (n : Int) (w : World) (hT : Tz w) (n0 : 0 ≤ n) (n1 : n ≤ 255) :
    Calls Tryd.prog 7 #[.int .u8 n] w fun e w' => e = .returned (.bool true) ∧ Bel w w' := by
  have k0 : 64 ≤ 64 + n % 31 := by omega
  have k1 : 64 + n % 31 ≤ 94 := by omega
  obtain ⟨b, hx, hy⟩ := cases_at k0 k1
  have y0 := look_fit fine7 hy
  have HX := Lib.hid (fun w h => rune_as 4 7 (64 + n % 31) (b + 32) true w (by decide) rfl hx h)
  have HY := Lib.hid (fun w h => rune_as 4 7 (64 + n % 31 + 32) b true w (by decide) rfl hy h)
  have HZ := Lib.hid (fun w h => rune_as 4 7 95 1098 true w (by decide) rfl look_c95 h)
  have HU := Lib.hid (fun w h => rune_as 4 7 127 0 false w (by decide) rfl look_c127 h)
  have HT := Lib.hid hT
  clear hT hx hy
  go_enter Tryd.func7, Tryd.ntmps7
  go_wp2_with fail
  with_reducible refine (HX.out _ HT.out).mono ?_
  rintro e w1 ⟨rfl, hb1⟩
  have HT1 := Lib.hid (HT.out.bel hb1)
  go_wp2_with fail
  with_reducible refine (HY.out _ HT1.out).mono ?_
  rintro e w2 ⟨rfl, hb2⟩
  have HT2 := Lib.hid (HT1.out.bel hb2)
  go_wp2_with fail
  with_reducible refine (HZ.out _ HT2.out).mono ?_
  rintro e w3 ⟨rfl, hb3⟩
  have HT3 := Lib.hid (HT2.out.bel hb3)
  go_wp2_with fail
  with_reducible refine (HU.out _ HT3.out).mono ?_
  rintro e w4 ⟨rfl, hb4⟩
  have HT4 := Lib.hid (HT3.out.bel hb4)
  go_wp2_with fail
  with_reducible refine (answers10_is _ HT4.out).mono ?_
  rintro e w5 ⟨rfl, hb5⟩
  have HB := Lib.hid ((((hb1.trans hb2).trans hb3).trans hb4).trans hb5)
  clear hb1 hb2 hb3 hb4 hb5 HX HY HZ HU HT HT1 HT2 HT3 HT4
  go_wp2
  go_ret
  exact ⟨by first | rfl | exact ret_bool (by simp), HB.out⟩
end Go.Proofs.YtdjaacmaljcnhaaDoor.U
