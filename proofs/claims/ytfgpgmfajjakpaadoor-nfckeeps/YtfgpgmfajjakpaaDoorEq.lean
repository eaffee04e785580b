/- What slices.Equal and the reference's Split answer. -/
import Derived.Test.YtfgpgmfajjakpaaDoorRunes
import Derived.Test.YtfgpgmfajjakpaaDoorRefOrd
namespace Go.Proofs.YtfgpgmfajjakpaaDoor.U
open Go.RowKit
set_option linter.unusedVariables false

set_option maxHeartbeats 1000000 in
theorem equal_any (A B : Option Addr) (n m c d : Nat) (xs ys : List Int) (B1 B2 : Nat) (w : World) (hA : Rd w B1 .i32 A xs) (hB : Rd w B2 .i32 B ys) (hn : xs.length = n) (hm : ys.length = m) (hn' : n ≤ 1099511627776) :
    Calls Tryd.prog 18 #[.slice A n c, .slice B m d] w (Quiet w (decide (xs = ys))) := by
  have HN := Lib.hid hn
  have HM := Lib.hid hm
  have HA := Lib.hid hA
  have HB := Lib.hid hB
  clear hn hm hA hB
  by_cases hnm : n = m
  · subst hnm
    have hq : ((n : Int) != (n : Int)) = false := by simp
    go_enter Tryd.func18, Tryd.ntmps18
    go_wp2
    go_loopw [13] (fun i wr => SameRel w xs ys i wr) (fun i _ => n - (intOf i).toNat)
    case atStart => exact ⟨0, 0, rfl, Nat.zero_le _, rfl, by simp⟩
    case round =>
      obtain ⟨k, q, rfl, hk, rfl, heq⟩ := hrel
      rw [HN.out] at hk
      have HE := Lib.hid heq
      clear heq
      by_cases hlt : k < n
      · obtain ⟨x, hx⟩ : ∃ x, xs[k]? = some x := ⟨xs[k]'(by rw [HN.out]; exact hlt), by simp⟩
        obtain ⟨y, hy⟩ : ∃ y, ys[k]? = some y := ⟨ys[k]'(by rw [HM.out]; exact hlt), by simp⟩
        obtain ⟨g1, o1, rfl, hg1, hc1⟩ := HA.out k x hx
        obtain ⟨g2, o2, rfl, hg2, hc2⟩ := HB.out k y hy
        have HX := Lib.hid hx
        have HY := Lib.hid hy
        clear hx hy
        have hi1 : (0 : Int) ≤ (k : Int) := by omega
        have hi2 : (k : Int) < (n : Int) := by omega
        by_cases hxy : x = y
        · subst hxy
          have hne : (x != x) = false := by simp
          go_wp2
          go_quiet (fail)
          go_wp2
          go_roundw
          case rel => exact ⟨k + 1, _, by go_num, by rw [HN.out]; omega, rfl, take_more HE.out HX.out HY.out⟩
          case measure => simp [intOf]; omega
        · have hne : (x != y) = true := by simpa using hxy
          have hd : decide (xs = ys) = false := by
            simp only [decide_eq_false_iff_not]
            intro e
            have h1 := HX.out
            rw [e, HY.out] at h1
            exact hxy (by simpa using h1.symm)
          have HD := Lib.hid hd
          clear hd
          go_wp2
          go_quiet (fail)
          go_wp2
          go_ret
          exact ⟨by rw [HD.out]; rfl, _, World.drewN_drewN _ _ _⟩
      · have hd : decide (xs = ys) = true := by
          simp only [decide_eq_true_eq]
          have h1 := HE.out
          obtain rfl : k = n := by omega
          rwa [List.take_of_length_le (by rw [HN.out]; omega), List.take_of_length_le (by rw [HM.out]; omega)] at h1
        have HD := Lib.hid hd
        clear hd
        go_wp2
        go_ret
        exact ⟨by rw [HD.out]; rfl, _, rfl⟩
  · have hq : ((n : Int) != (m : Int)) = true := by simp; omega
    have hd : decide (xs = ys) = false := by
      simp only [decide_eq_false_iff_not]
      intro e
      have h1 := HN.out
      rw [e, HM.out] at h1
      exact hnm h1.symm
    have HD := Lib.hid hd
    clear hd
    go_enter Tryd.func18, Tryd.ntmps18
    go_wp2
    go_ret
    exact ⟨by rw [HD.out]; rfl, 0, rfl⟩


def ThreeIs (w : World) (a b n : Int) (e : Ending) (w' : World) : Prop := e = .returned (.tuple #[.int .i32 a, .int .i32 b, .int .i64 n]) ∧ w = w'
theorem rsplit_no (c : Int) (w : World) (h : ∀ t ∈ twelve, t.1 ≠ c) : Calls Tryd.prog 20 #[.int .i32 c] w (ThreeIs w 0 0 0) := by
  simp only [twelve, List.mem_cons, List.not_mem_nil, or_false, forall_eq_or_imp, forall_eq] at h
  obtain ⟨h1, h2, h3, h4, h5, h6, h7, h8, h9, h10, h11, h12⟩ := h
  have q1 : (c == 832) = false := by simp; omega
  have q2 : (c == 833) = false := by simp; omega
  have q3 : (c == 835) = false := by simp; omega
  have q4 : (c == 836) = false := by simp; omega
  have q5 : (c == 884) = false := by simp; omega
  have q6 : (c == 894) = false := by simp; omega
  have q7 : (c == 903) = false := by simp; omega
  have q8 : (c == 8486) = false := by simp; omega
  have q9 : (c == 8490) = false := by simp; omega
  have q10 : (c == 8491) = false := by simp; omega
  have q11 : (c == 64302) = false := by simp; omega
  have q12 : (c == 64303) = false := by simp; omega
  clear h1 h2 h3 h4 h5 h6 h7 h8 h9 h10 h11 h12
  go_enter Tryd.func20, Tryd.ntmps20
  go_wp2
  go_ret3
  exact ⟨rfl, rfl⟩
theorem rsplit_yes (t : Int × Int × Int × Int) (w : World) (h : t ∈ twelve) : Calls Tryd.prog 20 #[.int .i32 t.1] w (ThreeIs w t.2.1 t.2.2.1 t.2.2.2) := by
  simp only [twelve, List.mem_cons, List.not_mem_nil, or_false] at h
  rcases h with rfl | rfl | rfl | rfl | rfl | rfl | rfl | rfl | rfl | rfl | rfl | rfl
  all_goals go_enter Tryd.func20, Tryd.ntmps20
  all_goals go_wp2
  all_goals go_ret3
  all_goals exact ⟨rfl, rfl⟩
theorem twelve_pos {t : Int × Int × Int × Int} (h : t ∈ twelve) : 0 < t.2.2.2 := by
  simp only [twelve, List.mem_cons, List.not_mem_nil, or_false] at h
  rcases h with rfl | rfl | rfl | rfl | rfl | rfl | rfl | rfl | rfl | rfl | rfl | rfl <;> decide
end Go.Proofs.YtfgpgmfajjakpaaDoor.U
