/- ClassAll answers true, where the table of spans lies in its variable. -/
import Derived.Test.YtkbiogbaaomcdaaDoorMarks
namespace Go.Proofs.YtkbiogbaaomcdaaDoor.U
open Go.RowKit
set_option linter.unusedVariables false

theorem Own.rdn {w : World} {base : Nat} {e : TypeId} {k : IntKind} {v : Value} {l : List Int} {n : Nat} (h : Own w base e k v l) (hn : l.length = n) :
    ∃ A cap, v = .slice A n cap ∧ n ≤ cap ∧ Rd w w.heap.size k A l ∧ (A = none → cap = 0) := by
  subst hn; exact h.rd

/-- Is it among the first k? -/
def among (r : Int) (k : Nat) : Bool := decide (r ∈ marks.take k)
theorem among_zero (r : Int) : among r 0 = false := by simp [among]
theorem among_all (r : Int) {n : Nat} (hn : marks.length = n) : among r n = decide (0 < cls r) := by
  unfold among
  rw [List.take_of_length_le (by omega)]
  exact decide_eq_decide.2 mem_marks
theorem among_next {r x : Int} {k : Nat} (hx : marks[k]? = some x) : among r (k + 1) = (among r k || decide (x = r)) := by
  unfold among
  rw [List.take_add_one, hx, Bool.eq_iff_iff]
  simp only [Option.toList_some, List.mem_append, List.mem_singleton, decide_eq_true_eq, Bool.or_eq_true]
  exact or_congr Iff.rfl eq_comm
def LawRel (w : World) (n : Nat) (r : Int) (b i : Value) (w' : World) : Prop := ∃ k : Nat, i = .int .i64 k ∧ k ≤ n ∧ b = .bool (among r k) ∧ ∃ q, w' = w.drewN q

set_option maxRecDepth 100000 in
set_option maxHeartbeats 4000000 in
theorem walk_all (r : Int) (w : World) (h : Sp w) : Calls Tryd.prog 4 #[.int .i32 r] w fun e w' => e = .returned (.bool true) ∧ Bel w w' := by
  obtain ⟨n, hn⟩ : ∃ n, marks.length = n := ⟨_, rfl⟩
  have hn1 : n ≤ 1000 := by rw [← hn, marks_len]; omega
  have HH := Lib.hid h
  have HN := Lib.hid hn
  clear h hn
  go_enter Tryd.func4, Tryd.ntmps4
  go_wp2_with fail
  refine (all_any w HH.out).mono ?_
  rintro e w1 ⟨v1, rfl, hown1, hb1⟩
  obtain ⟨A1, c1, rfl, hc1, hr1, _⟩ := hown1.rdn HN.out
  have H1 := Lib.hid hr1
  clear hown1 hr1
  go_wp2_with fail
  refine (rmarks_any w1).mono ?_
  rintro e w2 ⟨v2, rfl, hown2, hb2⟩
  obtain ⟨A2, c2, rfl, hc2, hr2, _⟩ := hown2.rdn HN.out
  have H2 := Lib.hid hr2
  have hbw2 := hb1.trans hb2
  clear hown2 hr2
  go_wp2_with fail
  refine (answers_any w2 (HH.out.bel hbw2)).mono ?_
  rintro e w3 ⟨rfl, hb3⟩
  have hbw3 := hbw2.trans hb3
  have R1 := Lib.hid ((H1.out.bel hb2).bel hb3)
  have R2 := Lib.hid (H2.out.bel hb3)
  clear H1 H2
  have hnn : ((n : Int) == (n : Int)) = true := by simp
  go_wp2
  go_loopw [5, 6] (fun b i wr => LawRel w3 n r b i wr) (fun _ i _ => n - (intOf i).toNat)
  case atStart => exact ⟨0, rfl, by omega, by rw [among_zero], 0, rfl⟩
  case round =>
    obtain ⟨k, rfl, hk, rfl, q, rfl⟩ := hrel
    by_cases hlt : k < n
    · obtain ⟨x, hx⟩ : ∃ x, marks[k]? = some x := ⟨marks[k]'(by rw [HN.out]; exact hlt), by simp⟩
      obtain ⟨g1, o1, rfl, _, _⟩ := R1.out.isSome (by rw [HN.out]; omega)
      obtain ⟨g2, o2, rfl, _, _⟩ := R2.out.isSome (by rw [HN.out]; omega)
      have d1 := R1.out.at hx
      have d2 := R2.out.at hx
      have HA := Lib.hid (among_next (r := r) hx)
      have q0 : (0 : Int) ≤ (k : Int) := by omega
      have q1 : (k : Int) < (n : Int) := by omega
      have q2 : (x == x) = true := by simp
      have q3 : (x != x) = false := by simp
      obtain ⟨b, hb⟩ : ∃ b, among r k = b := ⟨_, rfl⟩
      rw [hb] at HA ⊢
      clear hb
      rcases k with _ | j
      · clear hx
        rw [Nat.add_zero] at d1 d2
        cases b
        · rw [Bool.false_or] at HA
          go_wp2
          go_quiet (fail)
          go_wp2
          go_roundw
          case rel => exact ⟨1, rfl, by omega, by rw [HA.out]; congr 1, _, rfl⟩
          case measure => simp [intOf]; omega
        · rw [Bool.true_or] at HA
          go_wp2
          go_quiet (fail)
          go_wp2
          go_roundw
          case rel => exact ⟨1, rfl, by omega, by rw [HA.out], _, rfl⟩
          case measure => simp [intOf]; omega
      · obtain ⟨y, hy⟩ : ∃ y, marks[j]? = some y := ⟨marks[j]'(by rw [HN.out]; omega), by simp⟩
        have hyx := up_at marks marks_up j y x hy hx
        have d3 := R1.out.at hy
        have q4 : ¬ x ≤ y := by omega
        have q5 : (j : Int) < (n : Int) := by omega
        have q6 : (0 : Int) ≤ (j : Int) := by omega
        clear hx hy hyx
        cases b
        · rw [Bool.false_or] at HA
          go_wp2
          go_quiet (fail)
          go_wp2
          go_roundw
          case rel => exact ⟨j + 1 + 1, by go_num, by omega, by rw [HA.out]; congr 1, _, rfl⟩
          case measure => simp [intOf]; omega
        · rw [Bool.true_or] at HA
          go_wp2
          go_quiet (fail)
          go_wp2
          go_roundw
          case rel => exact ⟨j + 1 + 1, by go_num, by omega, by rw [HA.out], _, rfl⟩
          case measure => simp [intOf]; omega
    · obtain rfl : k = n := by omega
      have hM := fun q => mark_is r (among r k) (w3.drewN q) ((HH.out.bel hbw3).bel ((Bel.refl _).drewN q)) (among_all r HN.out).symm
      generalize among r k = b at hM ⊢
      have hbb : (b == b) = true := by simp
      go_wp2_with (go_at_call 10; refine (hM _).mono ?_; rintro e w4 ⟨rfl, hb4⟩)
      go_ret
      exact ⟨rfl, (hbw3.drewN _).trans hb4⟩
end Go.Proofs.YtkbiogbaaomcdaaDoor.U
