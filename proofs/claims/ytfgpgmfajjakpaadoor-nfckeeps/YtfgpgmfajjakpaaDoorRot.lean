/- What slices.rotateCmpFunc makes of a row: two runs side by side change places. -/
import Derived.Test.YtfgpgmfajjakpaaDoorSwapR
namespace Go.Proofs.YtfgpgmfajjakpaaDoor.U
open Go.RowKit
set_option linter.unusedVariables false

def RotRel (base : Nat) (w0 : World) (g off : Nat) (p x y q : List Int) (m : Nat) (i j : Value) (w : World) : Prop :=
  ∃ I J : Nat, i = .int .i64 I ∧ j = .int .i64 J ∧ 0 < I ∧ 0 < J ∧ I ≤ m ∧ m + J ≤ p.length + x.length + y.length ∧ Hid (∃ A X Y B, X.length = I ∧ Y.length = J ∧ p.length + A.length + I = m ∧ A ++ (Y ++ (X ++ B)) = y ++ x ∧ In base w0 g off (p ++ (A ++ (X ++ (Y ++ (B ++ q))))) w)

theorem cut_at {X : List Int} {j n : Nat} (h : X.length = n) (hj : j ≤ n) : ∃ X1 X2, X = X1 ++ X2 ∧ X1.length = j ∧ X2.length = n - j :=
  ⟨X.take j, X.drop j, (List.take_append_drop _ _).symm, by rw [List.length_take]; omega, by rw [List.length_drop]; omega⟩

set_option maxRecDepth 1000000 in
set_option maxHeartbeats 8000000 in
theorem rotate_is (base g off cap a m b N : Nat) (p x y q : List Int) (w0 w : World) (F : Value) (hI : In base w0 g off (p ++ (x ++ (y ++ q))) w) (hp : p.length = a) (hm : a + x.length = m) (hb : m + y.length = b) (hx : 0 < x.length) (hy : 0 < y.length)
    (hN : (p ++ (x ++ (y ++ q))).length = N) (hs : N ≤ 1099511627776) :
    Calls Tryd.prog 61 #[.slice (some ⟨g, off, none⟩) N cap, .int .i64 a, .int .i64 m, .int .i64 b, F] w (Done base w0 g off (p ++ (y ++ (x ++ q)))) := by
  have hN' : a + x.length + y.length + q.length = N := by simp at hN; omega
  obtain ⟨I0, hI0⟩ : ∃ I0, x.length = I0 := ⟨_, rfl⟩
  obtain ⟨J0, hJ0⟩ : ∃ J0, y.length = J0 := ⟨_, rfl⟩
  have HI := Lib.hid hI
  have hm0 : a + I0 = m := by omega
  have hb0 : m + J0 = b := by omega
  have hi0 : 0 < I0 := by omega
  have hj0 : 0 < J0 := by omega
  have hbN : b ≤ N := by omega
  have s1 : (m : Int) - (a : Int) = (I0 : Int) := by omega
  have s2 : (b : Int) - (m : Int) = (J0 : Int) := by omega
  have HP := Lib.hid hp
  have HX := Lib.hid hI0
  have HY := Lib.hid hJ0
  have HN := Lib.hid hN'
  have HB := Lib.hid hb0
  have HM := Lib.hid hm0
  clear hI hp hm hb hx hy hN hN' hI0 hJ0 hb0 hm0
  go_enter Tryd.func61, Tryd.ntmps61
  go_wp2
  go_loopw [10, 11] (fun i j wr => RotRel base w0 g off p x y q m i j wr) (fun i j _ => (intOf i).toNat + (intOf j).toNat)
  case atStart => exact ⟨I0, J0, rfl, rfl, hi0, hj0, by have := HM.out; omega, by rw [HP.out, HX.out, HY.out]; have := HM.out; omega, Lib.hid ⟨[], x, y, [], HX.out, HY.out, by have := HP.out; have := HM.out; simp; omega, by simp, by simpa using HI.out⟩⟩
  case round =>
    clear HI s1 s2 hi0 hj0
    obtain ⟨I, J, rfl, rfl, hi, hj, him, hjb, HR⟩ := hrel
    rw [HP.out, HX.out, HY.out] at hjb
    have hjb' : m + J ≤ b := by have := HM.out; have := HB.out; omega
    clear hjb
    have hmN : m ≤ 1099511627776 := by have := HB.out; omega
    have hJN : m + J ≤ 1099511627776 := by omega
    obtain ⟨a1, ha1⟩ : ∃ a1, a1 + I = m := ⟨m - I, by omega⟩
    have z1 : (m : Int) - (I : Int) = (a1 : Int) := by omega
    rcases Nat.lt_trichotomy I J with hlt | rfl | hgt
    · obtain ⟨b1, hb1⟩ : ∃ b1, b1 + I = m + J := ⟨m + J - I, by omega⟩
      have z2 : (m : Int) + (J : Int) - (I : Int) = (b1 : Int) := by omega
      obtain ⟨j2, hj2⟩ : ∃ j2, j2 + I = J := ⟨J - I, by omega⟩
      have z3 : (J : Int) - (I : Int) = (j2 : Int) := by omega
      have hc : Hid (∀ F, Calls Tryd.prog 63 #[.slice (some ⟨g, off, none⟩) N cap, .int .i64 a1, .int .i64 b1, .int .i64 I, F] wr fun e w' => e = .returned (.tuple #[]) ∧ Hid (∃ A X Y B, X.length = I ∧ Y.length = j2 ∧ p.length + A.length + I = m ∧ A ++ (Y ++ (X ++ B)) = y ++ x ∧ In base w0 g off (p ++ (A ++ (X ++ (Y ++ (B ++ q))))) w')) := Lib.hid fun F => by
        obtain ⟨A, X, Y, B, l1, l2, l3, e, hin⟩ := HR.out
        obtain ⟨Y1, Y2, rfl, k1, k2⟩ := cut_at l2 (j := j2) (by omega)
        have hlen := congrArg List.length e
        simp only [List.length_append] at hlen
        have hxx := HX.out
        have hyy := HY.out
        have hNN := HN.out
        have hpp := HP.out
        refine (swapRange_is base g off cap a1 b1 I N (p ++ A) X Y1 Y2 (B ++ q) w0 wr F (by simpa using hin) (by simp; omega) (by omega) l1 (by omega) (by simp only [List.length_append]; omega) hs).mono ?_
        rintro e' w' ⟨rfl, h'⟩
        refine ⟨rfl, Lib.hid ⟨A, Y2, Y1, X ++ B, by omega, by omega, l3, by rw [← e]; simp, by simpa using h'⟩⟩
      clear HR
      have q1 : ((I : Int) != (J : Int)) = true := by simp; omega
      have q2 : ¬ (J : Int) < (I : Int) := by omega
      clear ha1 hb1
      go_wp2_with fail
      with_reducible refine (hc.out _).mono ?_
      rintro e' w' ⟨rfl, HR'⟩
      go_wp2
      go_roundw
      case rel => exact ⟨I, j2, rfl, by go_num, hi, by omega, him, by rw [HP.out, HX.out, HY.out]; have := HM.out; have := HB.out; omega, HR'⟩
      case measure => simp [intOf]; omega
    · have hc : Hid (∀ F, Calls Tryd.prog 63 #[.slice (some ⟨g, off, none⟩) N cap, .int .i64 a1, .int .i64 m, .int .i64 I, F] wr fun e w' => e = .returned (.tuple #[]) ∧ Hid (In base w0 g off (p ++ (y ++ (x ++ q))) w')) := Lib.hid fun F => by
        obtain ⟨A, X, Y, B, l1, l2, l3, e, hin⟩ := HR.out
        have hlen := congrArg List.length e
        simp only [List.length_append] at hlen
        have hxx := HX.out
        have hyy := HY.out
        have hNN := HN.out
        have hpp := HP.out
        refine (swapRange_is base g off cap a1 m I N (p ++ A) X [] Y (B ++ q) w0 wr F (by simpa using hin) (by simp; omega) (by simp; omega) l1 l2 (by simp only [List.length_append, List.length_nil]; omega) hs).mono ?_
        rintro e' w' ⟨rfl, h'⟩
        refine ⟨rfl, Lib.hid ?_⟩
        have e2 : p ++ (y ++ (x ++ q)) = (p ++ A) ++ (Y ++ ([] ++ (X ++ (B ++ q)))) := by
          have : y ++ (x ++ q) = (y ++ x) ++ q := by simp
          rw [this, ← e]; simp
        rw [e2]; exact h'
      clear HR
      have q1 : ((I : Int) != (I : Int)) = false := by simp
      clear ha1
      go_wp2_with fail
      with_reducible refine (hc.out _).mono ?_
      rintro e' w' ⟨rfl, HF⟩
      go_wp2
      go_end0
      exact ⟨rfl, HF.out⟩
    · obtain ⟨i2, hi2⟩ : ∃ i2, i2 + J = I := ⟨I - J, by omega⟩
      have z3 : (I : Int) - (J : Int) = (i2 : Int) := by omega
      have hc : Hid (∀ F, Calls Tryd.prog 63 #[.slice (some ⟨g, off, none⟩) N cap, .int .i64 a1, .int .i64 m, .int .i64 J, F] wr fun e w' => e = .returned (.tuple #[]) ∧ Hid (∃ A X Y B, X.length = i2 ∧ Y.length = J ∧ p.length + A.length + i2 = m ∧ A ++ (Y ++ (X ++ B)) = y ++ x ∧ In base w0 g off (p ++ (A ++ (X ++ (Y ++ (B ++ q))))) w')) := Lib.hid fun F => by
        obtain ⟨A, X, Y, B, l1, l2, l3, e, hin⟩ := HR.out
        obtain ⟨X1, X2, rfl, k1, k2⟩ := cut_at l1 (j := J) (by omega)
        have hlen := congrArg List.length e
        simp only [List.length_append] at hlen
        have hxx := HX.out
        have hyy := HY.out
        have hNN := HN.out
        have hpp := HP.out
        refine (swapRange_is base g off cap a1 m J N (p ++ A) X1 X2 Y (B ++ q) w0 wr F (by simpa using hin) (by simp; omega) (by omega) k1 l2 (by simp only [List.length_append]; omega) hs).mono ?_
        rintro e' w' ⟨rfl, h'⟩
        refine ⟨rfl, Lib.hid ⟨A ++ Y, X2, X1, B, by omega, k1, by simp only [List.length_append]; omega, by rw [← e]; simp, by simpa using h'⟩⟩
      clear HR
      have q1 : ((I : Int) != (J : Int)) = true := by simp; omega
      have q2 : (J : Int) < (I : Int) := by omega
      clear ha1
      go_wp2_with fail
      with_reducible refine (hc.out _).mono ?_
      rintro e' w' ⟨rfl, HR'⟩
      go_wp2
      go_roundw
      case rel => exact ⟨i2, J, by go_num, rfl, by omega, hj, by omega, by rw [HP.out, HX.out, HY.out]; have := HM.out; have := HB.out; omega, HR'⟩
      case measure => simp [intOf]; omega
end Go.Proofs.YtfgpgmfajjakpaaDoor.U
