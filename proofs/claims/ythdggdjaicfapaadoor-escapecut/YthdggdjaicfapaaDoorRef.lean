/- What the reference's Same and Less answer: whether two lists are one; whether one is less. -/
import Derived.Test.YthdggdjaicfapaaDoorSides
namespace Go.Proofs.YthdggdjaicfapaaDoor.U
open Go.RowKit
set_option linter.unusedVariables false

def Quiet (w : World) (b : Bool) (e : Ending) (w' : World) : Prop := e = .returned (.bool b) ∧ ∃ m, w' = w.drewN m

def SameRel (W : World) (xs ys : List Int) (i : Value) (w : World) : Prop :=
  ∃ k m : Nat, i = .int .i64 k ∧ k ≤ xs.length ∧ w = W.drewN m ∧ xs.take k = ys.take k

theorem take_more {xs ys : List Int} {k : Nat} {x : Int} (h : xs.take k = ys.take k) (hx : xs[k]? = some x) (hy : ys[k]? = some x) : xs.take (k + 1) = ys.take (k + 1) := by
  rw [List.take_add_one, List.take_add_one, h, hx, hy]

set_option maxHeartbeats 1000000 in
theorem same_any (A B : Option Addr) (n m c d : Nat) (xs ys : List Int) (B1 B2 : Nat) (w : World) (hA : Rd w B1 .u8 A xs) (hB : Rd w B2 .u8 B ys) (hn : xs.length = n) (hm : ys.length = m) (hn' : n ≤ 1099511627776) :
    Calls Tryd.prog 13 #[.slice A n c, .slice B m d] w (Quiet w (decide (xs = ys))) := by
  have HN := Lib.hid hn
  have HM := Lib.hid hm
  have HA := Lib.hid hA
  have HB := Lib.hid hB
  clear hn hm hA hB
  by_cases hnm : n = m
  · subst hnm
    have hq : ((n : Int) != (n : Int)) = false := by simp
    go_enter Tryd.func13, Tryd.ntmps13
    go_wp2
    go_loopw [5] (fun i wr => SameRel w xs ys i wr) (fun i _ => n - (intOf i).toNat)
    case atStart => exact ⟨0, 0, rfl, Nat.zero_le _, rfl, by simp⟩
    case round =>
      obtain ⟨k, q, rfl, hk, rfl, heq⟩ := hrel
      rw [HN.out] at hk
      have HE := Lib.hid heq
      clear heq
      by_cases hlt : k < n
      · obtain ⟨x, hx⟩ : ∃ x, xs[k]? = some x := ⟨xs[k]'(by rw [HN.out]; exact hlt), by simp⟩
        obtain ⟨y, hy⟩ : ∃ y, ys[k]? = some y := ⟨ys[k]'(by rw [HM.out]; exact hlt), by simp⟩
        obtain ⟨g1, o1, rfl, hg1, hc1⟩ := HA.out k x hx
        obtain ⟨g2, o2, rfl, hg2, hc2⟩ := HB.out k y hy
        have HX := Lib.hid hx
        have HY := Lib.hid hy
        clear hx hy
        have hi1 : (0 : Int) ≤ (k : Int) := by omega
        have hi2 : (k : Int) < (n : Int) := by omega
        by_cases hxy : x = y
        · subst hxy
          have hne : (x != x) = false := by simp
          go_wp2
          go_quiet (fail)
          go_wp2
          go_roundw
          case rel => exact ⟨k + 1, _, by go_num, by rw [HN.out]; omega, rfl, take_more HE.out HX.out HY.out⟩
          case measure => simp [intOf]; omega
        · have hne : (x != y) = true := by simpa using hxy
          have hd : decide (xs = ys) = false := by
            simp only [decide_eq_false_iff_not]
            intro e
            have h1 := HX.out
            rw [e, HY.out] at h1
            exact hxy (by simpa using h1.symm)
          have HD := Lib.hid hd
          clear hd
          go_wp2
          go_quiet (fail)
          go_wp2
          go_ret
          exact ⟨by rw [HD.out]; rfl, _, World.drewN_drewN _ _ _⟩
      · have hd : decide (xs = ys) = true := by
          simp only [decide_eq_true_eq]
          have h1 := HE.out
          obtain rfl : k = n := by omega
          rwa [List.take_of_length_le (by rw [HN.out]; omega), List.take_of_length_le (by rw [HM.out]; omega)] at h1
        have HD := Lib.hid hd
        clear hd
        go_wp2
        go_ret
        exact ⟨by rw [HD.out]; rfl, _, rfl⟩
  · have hq : ((n : Int) != (m : Int)) = true := by simp; omega
    have hd : decide (xs = ys) = false := by
      simp only [decide_eq_false_iff_not]
      intro e
      have h1 := HN.out
      rw [e, HM.out] at h1
      exact hnm h1.symm
    have HD := Lib.hid hd
    clear hd
    go_enter Tryd.func13, Tryd.ntmps13
    go_wp2
    go_ret
    exact ⟨by rw [HD.out]; rfl, 0, rfl⟩

theorem same_is (A B : Option Addr) (n m c d : Nat) (xs ys : List Int) (B1 B2 : Nat) (b : Bool) (w : World) (hA : Rd w B1 .u8 A xs) (hB : Rd w B2 .u8 B ys) (hn : xs.length = n) (hm : ys.length = m) (hn' : n ≤ 1099511627776) (hb : decide (xs = ys) = b) :
    Calls Tryd.prog 13 #[.slice A n c, .slice B m d] w (Quiet w b) := by
  subst hb; exact same_any A B n m c d xs ys B1 B2 w hA hB hn hm hn'


theorem lex_same : ∀ xs : List Int, lexB xs xs = false
  | [] => rfl
  | x :: xs => by rw [lexB, if_pos rfl]; exact lex_same xs
theorem lex_at : ∀ {k : Nat} {xs ys : List Int} {x y : Int}, xs.take k = ys.take k → xs[k]? = some x → ys[k]? = some y → x ≠ y → lexB xs ys = decide (x < y)
  | 0, a :: xs, b :: ys, x, y, _, hx, hy, hne => by
    simp at hx hy
    subst hx hy
    rw [lexB, if_neg hne]
  | k + 1, a :: xs, b :: ys, x, y, h, hx, hy, hne => by
    simp at h hx hy
    obtain ⟨rfl, h⟩ := h
    rw [lexB, if_pos rfl]
    exact lex_at h hx hy hne
  | k, [], ys, x, y, _, hx, _, _ => by simp at hx
  | k, xs, [], x, y, _, _, hy, _ => by simp at hy

set_option maxHeartbeats 1000000 in
theorem less_is (A B : Option Addr) (n m c d : Nat) (xs ys : List Int) (B1 B2 : Nat) (b : Bool) (w : World) (hA : Rd w B1 .u8 A xs) (hB : Rd w B2 .u8 B ys) (hn : xs.length = n) (hm : ys.length = m) (hn' : n ≤ 1000) (hb : lessB xs ys = b) :
    Calls Tryd.prog 18 #[.slice A n c, .slice B m d] w (Quiet w b) := by
  subst hb
  have HN := Lib.hid hn
  have HM := Lib.hid hm
  have HA := Lib.hid hA
  have HB := Lib.hid hB
  clear hn hm hA hB
  by_cases hnm : n = m
  · subst hnm
    have hq : ((n : Int) != (n : Int)) = false := by simp
    have hl : lessB xs ys = lexB xs ys := if_pos (HN.out.trans HM.out.symm)
    rw [hl]
    clear hl
    go_enter Tryd.func18, Tryd.ntmps18
    go_wp2
    go_loopw [5] (fun i wr => SameRel w xs ys i wr) (fun i _ => n - (intOf i).toNat)
    case atStart => exact ⟨0, 0, rfl, Nat.zero_le _, rfl, by simp⟩
    case round =>
      obtain ⟨k, q, rfl, hk, rfl, heq⟩ := hrel
      rw [HN.out] at hk
      have HE := Lib.hid heq
      clear heq
      by_cases hlt : k < n
      · obtain ⟨x, hx⟩ : ∃ x, xs[k]? = some x := ⟨xs[k]'(by rw [HN.out]; exact hlt), by simp⟩
        obtain ⟨y, hy⟩ : ∃ y, ys[k]? = some y := ⟨ys[k]'(by rw [HM.out]; exact hlt), by simp⟩
        obtain ⟨g1, o1, rfl, hg1, hc1⟩ := HA.out k x hx
        obtain ⟨g2, o2, rfl, hg2, hc2⟩ := HB.out k y hy
        have HX := Lib.hid hx
        have HY := Lib.hid hy
        clear hx hy
        have hi1 : (0 : Int) ≤ (k : Int) := by omega
        have hi2 : (k : Int) < (n : Int) := by omega
        by_cases hxy : x = y
        · subst hxy
          have hne : (x != x) = false := by simp
          go_wp2
          go_quiet (fail)
          go_wp2
          go_roundw
          case rel => exact ⟨k + 1, _, by go_num, by rw [HN.out]; omega, rfl, take_more HE.out HX.out HY.out⟩
          case measure => simp [intOf]; omega
        · have hne : (x != y) = true := by simpa using hxy
          have HD := Lib.hid (lex_at HE.out HX.out HY.out hxy)
          go_wp2
          go_quiet (fail)
          go_wp2
          go_quiet (fail)
          go_wp2
          go_ret
          exact ⟨by rw [HD.out]; rfl, _, by rw [World.drewN_drewN, World.drewN_drewN]⟩
      · have hd : xs = ys := by
          have h1 := HE.out
          obtain rfl : k = n := by omega
          rwa [List.take_of_length_le (by rw [HN.out]; omega), List.take_of_length_le (by rw [HM.out]; omega)] at h1
        have HD : Hid (lexB xs ys = false) := Lib.hid (by rw [hd]; exact lex_same _)
        clear hd
        go_wp2
        go_ret
        exact ⟨by rw [HD.out]; rfl, _, rfl⟩
  · have hq : ((n : Int) != (m : Int)) = true := by simp; omega
    have hl : lessB xs ys = decide ((n : Int) < (m : Int)) := by
      unfold lessB
      rw [HN.out, HM.out, if_neg hnm, decide_eq_decide]
      omega
    rw [hl]
    clear hl
    go_enter Tryd.func18, Tryd.ntmps18
    go_wp2
    all_goals go_ret
    all_goals exact ⟨by first | rfl | (refine ret_bool ?_; simp; try omega), 0, rfl⟩

end Go.Proofs.YthdggdjaicfapaaDoor.U
