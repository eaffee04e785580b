/- What the leaves answer: both Scalars, isDigit, begins, countDigits. At most 100000 characters. -/
import Derived.Test.YtfggeofknmdmfaaDoorChecked
import Derived.Test.YtfggeofknmdmfaaDoorBase
import Derived.LoopN
namespace Go.Proofs.YtfggeofknmdmfaaDoor.U
open Go.RowKit
set_option linter.unusedVariables false

theorem scalar_any (r : Int) (w : World) : Calls Tryd.prog 20 #[.int .i32 r] w fun e w' => e = .returned (.bool (scB r)) ∧ w = w' := by
  go_enter Tryd.func20, Tryd.ntmps20
  go_wp2
  all_goals go_ret
  all_goals refine ⟨ret_bool ?_, rfl⟩
  all_goals (rw [Bool.eq_iff_iff, scB_true]; simp; try omega)
theorem rscalar_any (r : Int) (w : World) : Calls Tryd.prog 10 #[.int .i32 r] w fun e w' => e = .returned (.bool (scB r)) ∧ w = w' := by
  go_enter Tryd.func10, Tryd.ntmps10
  go_wp2
  all_goals go_ret
  all_goals refine ⟨ret_bool ?_, rfl⟩
  all_goals (rw [Bool.eq_iff_iff, scB_true]; simp; try omega)
theorem scalar_is (r : Int) (b : Bool) (w : World) (h : scB r = b) : Calls Tryd.prog 20 #[.int .i32 r] w fun e w' => e = .returned (.bool b) ∧ w = w' := by
  subst h; exact scalar_any r w
theorem rscalar_is (r : Int) (b : Bool) (w : World) (h : scB r = b) : Calls Tryd.prog 10 #[.int .i32 r] w fun e w' => e = .returned (.bool b) ∧ w = w' := by
  subst h; exact rscalar_any r w

theorem isDigit_any (c : Int) (w : World) : Calls Tryd.prog 33 #[.int .i32 c] w fun e w' => e = .returned (.bool (isD c)) ∧ w = w' := by
  go_enter Tryd.func33, Tryd.ntmps33
  go_wp2
  all_goals go_ret
  all_goals refine ⟨ret_bool ?_, rfl⟩
  all_goals (rw [Bool.eq_iff_iff, isD_true]; simp; try omega)
theorem isDigit_is (c : Int) (b : Bool) (w : World) (h : isD c = b) : Calls Tryd.prog 33 #[.int .i32 c] w fun e w' => e = .returned (.bool b) ∧ w = w' := by
  subst h; exact isDigit_any c w

/-- So many: all of them digits, and no more. -/
def Cnt (l : List Int) (n : Nat) : Prop := n ≤ 6 ∧ n ≤ l.length ∧ (∀ c ∈ l.take n, isD c = true) ∧ (n = 6 ∨ n = l.length ∨ ∃ c, l[n]? = some c ∧ isD c = false)
theorem cnt_snoc {l : List Int} {k : Nat} {c : Int} (h : ∀ x ∈ l.take k, isD x = true) (hc : l[k]? = some c) (hd : isD c = true) : ∀ x ∈ l.take (k + 1), isD x = true := by
  rw [List.take_add_one, hc]
  intro x hx
  rcases List.mem_append.1 hx with hx | hx
  · exact h x hx
  · simp at hx; subst hx; exact hd

def CntRel (W : World) (l : List Int) (i : Value) (w : World) : Prop := ∃ k : Nat, i = .int .i64 k ∧ k ≤ 6 ∧ k ≤ l.length ∧ w = W ∧ ∀ c ∈ l.take k, isD c = true

theorem countDigits_any (A : Option Addr) (n c : Nat) (l : List Int) (B : Nat) (w : World) (h : Rd w B .i32 A l) (hn : l.length = n) :
    Calls Tryd.prog 24 #[.slice A n c] w fun e w' => ∃ k : Nat, e = .returned (.int .i64 k) ∧ Cnt l k ∧ w = w' := by
  have HN := Lib.hid hn
  have HA := Lib.hid h
  clear hn h
  go_enter Tryd.func24, Tryd.ntmps24
  go_wp2
  go_loopw [3] (fun i wr => CntRel w l i wr) (fun i _ => 6 - (intOf i).toNat)
  case atStart => exact ⟨0, rfl, by omega, Nat.zero_le _, rfl, by simp⟩
  case round =>
    obtain ⟨k, rfl, hk6, hk, rfl, hD⟩ := hrel
    rw [HN.out] at hk
    have HD := Lib.hid hD
    clear hD
    by_cases hlt : k < n
    · by_cases h6 : k < 6
      · obtain ⟨x, hx⟩ : ∃ x, l[k]? = some x := ⟨l[k]'(by rw [HN.out]; exact hlt), by simp⟩
        obtain ⟨g1, o1, rfl, hg1, hc1⟩ := HA.out k x hx
        have HX := Lib.hid hx
        clear hx
        have hi1 : (0 : Int) ≤ (k : Int) := by omega
        have hi2 : (k : Int) < (n : Int) := by omega
        have hi3 : (k : Int) < 6 := by omega
        by_cases hd : isD x = true
        · have HDD := Lib.hid hd
          clear hd
          go_wp2_with (go_at_call 33; (with_reducible refine (isDigit_is _ true _ HDD.out).mono ?_); rintro e w' ⟨rfl, rfl⟩)
          go_roundw
          case rel => exact ⟨k + 1, by go_num, by omega, by rw [HN.out]; omega, rfl, cnt_snoc HD.out HX.out HDD.out⟩
          case measure => simp [intOf]; omega
        · have HDD := Lib.hid (show isD x = false by simpa using hd)
          clear hd
          go_wp2_with (go_at_call 33; (with_reducible refine (isDigit_is _ false _ HDD.out).mono ?_); rintro e w' ⟨rfl, rfl⟩)
          go_ret
          exact ⟨k, rfl, ⟨hk6, by rw [HN.out]; omega, HD.out, .inr (.inr ⟨x, HX.out, HDD.out⟩)⟩, rfl⟩
      · have hi2 : (k : Int) < (n : Int) := by omega
        have hi3 : ¬ (k : Int) < 6 := by omega
        go_wp2
        go_ret
        exact ⟨k, rfl, ⟨hk6, by rw [HN.out]; omega, HD.out, .inl (by omega)⟩, rfl⟩
    · have hi2 : ¬ (k : Int) < (n : Int) := by omega
      go_wp2
      go_ret
      exact ⟨k, rfl, ⟨hk6, by rw [HN.out]; omega, HD.out, .inr (.inl (by rw [HN.out]; omega))⟩, rfl⟩

def hdS : ByteArray := ⟨#[38, 35, 120]⟩
theorem begins_any (A : Option Addr) (n c : Nat) (l : List Int) (B : Nat) (w : World) (h : Rd w B .i32 A l) (hn : l.length = n) :
    Calls Tryd.prog 23 #[.slice A n c] w fun e w' => e = .returned (.bool (decide (l.take 3 = [38, 35, 120]))) ∧ Bel w w' := by
  by_cases h3 : n < 3
  · have hd : decide (l.take 3 = [38, 35, 120]) = false := by
      simp only [decide_eq_false_iff_not]
      intro e
      have := congrArg List.length e
      simp at this
      omega
    rw [hd]
    clear hd
    have hq : (n : Int) < 3 := by omega
    clear hn
    go_enter Tryd.func23, Tryd.ntmps23
    go_wp2
    go_ret
    exact ⟨rfl, Bel.refl _⟩
  · have n0 : ∀ ty, (Instr.next (.pointer (some ⟨w.heap.size, 0, none⟩)) true ty).run Tryd.prog (w.iter ⟨#[38, 35, 120]⟩ 0) = .ok (.tuple #[.bool true, .int .i64 0, .int .i32 38]) (w.iter ⟨#[38, 35, 120]⟩ 1) := fun ty => run_next_ascii w ⟨#[38, 35, 120]⟩ 0 ty (by decide) (by decide)
    have n1 : ∀ ty, (Instr.next (.pointer (some ⟨w.heap.size, 0, none⟩)) true ty).run Tryd.prog (w.iter ⟨#[38, 35, 120]⟩ 1) = .ok (.tuple #[.bool true, .int .i64 1, .int .i32 35]) (w.iter ⟨#[38, 35, 120]⟩ 2) := fun ty => run_next_ascii w ⟨#[38, 35, 120]⟩ 1 ty (by decide) (by decide)
    have n2 : ∀ ty, (Instr.next (.pointer (some ⟨w.heap.size, 0, none⟩)) true ty).run Tryd.prog (w.iter ⟨#[38, 35, 120]⟩ 2) = .ok (.tuple #[.bool true, .int .i64 2, .int .i32 120]) (w.iter ⟨#[38, 35, 120]⟩ 3) := fun ty => run_next_ascii w ⟨#[38, 35, 120]⟩ 2 ty (by decide) (by decide)
    have n3 : ∀ ty, (Instr.next (.pointer (some ⟨w.heap.size, 0, none⟩)) true ty).run Tryd.prog (w.iter ⟨#[38, 35, 120]⟩ 3) = _ := fun ty => run_next_end w ⟨#[38, 35, 120]⟩ 3 ty (by decide)
    rcases l with _ | ⟨x, _ | ⟨y, _ | ⟨z, t⟩⟩⟩ <;> simp at hn <;> try (exfalso; omega)
    obtain ⟨g, off, rfl, hg, hcx⟩ := h 0 x rfl
    have hcy := h.at (i := 1) (x := y) rfl
    have hcz := h.at (i := 2) (x := z) rfl
    have hb : ∀ p, Bel w (w.iter ⟨#[38, 35, 120]⟩ p) := fun p => (Bel.refl w).alloc _
    have c0 : ∀ p, (w.iter ⟨#[38, 35, 120]⟩ p).cell? ⟨g, off, none⟩ = some (.int .i32 x) := fun p => (Below.cell (hb p) (p := ⟨g, off, none⟩) (cell_block hcx)).trans hcx
    have c1 : ∀ p, (w.iter ⟨#[38, 35, 120]⟩ p).cell? ⟨g, off + 1, none⟩ = some (.int .i32 y) := fun p => (Below.cell (hb p) (p := ⟨g, off + 1, none⟩) (cell_block hcy)).trans hcy
    have c2 : ∀ p, (w.iter ⟨#[38, 35, 120]⟩ p).cell? ⟨g, off + 2, none⟩ = some (.int .i32 z) := fun p => (Below.cell (hb p) (p := ⟨g, off + 2, none⟩) (cell_block hcz)).trans hcz
    have hq : ¬ (n : Int) < 3 := by omega
    have q0 : (0 : Int) < (n : Int) := by omega
    have q1 : (1 : Int) < (n : Int) := by omega
    have q2 : (2 : Int) < (n : Int) := by omega
    have hd : decide (List.take 3 (x :: y :: z :: t) = [38, 35, 120]) = (decide (x = 38) && decide (y = 35) && decide (z = 120)) := by
      simp [Bool.and_assoc]
    rw [hd]
    clear hd h hn hcx hcy hcz hg
    have HB := Lib.hid hb
    clear hb
    go_enter Tryd.func23, Tryd.ntmps23
    go_wp2
    refine wp_loop_rounds 4 ?_
    by_cases hx : x = 38
    · subst hx
      rw [rounds_succ]; go_wp2
      by_cases hy : y = 35
      · subst hy
        rw [rounds_succ]; go_wp2
        by_cases hz : z = 120
        · subst hz
          rw [rounds_succ]; go_wp2
          rw [rounds_succ]; go_wp2
          go_ret
          exact ⟨by simp, HB.out _⟩
        · have e : (z != 120) = true := by simpa using hz
          rw [rounds_succ]; go_wp2
          go_ret
          exact ⟨by simp, HB.out _⟩
      · have e : (y != 35) = true := by simpa using hy
        rw [rounds_succ]; go_wp2
        go_ret
        exact ⟨by simp, HB.out _⟩
    · have e : (x != 38) = true := by simpa using hx
      rw [rounds_succ]; go_wp2
      go_ret
      exact ⟨by simp [hx], HB.out _⟩
theorem begins_is (A : Option Addr) (n c : Nat) (l : List Int) (B : Nat) (b : Bool) (w : World) (h : Rd w B .i32 A l) (hn : l.length = n) (hb : decide (l.take 3 = [38, 35, 120]) = b) :
    Calls Tryd.prog 23 #[.slice A n c] w fun e w' => e = .returned (.bool b) ∧ Bel w w' := by
  subst hb; exact begins_any A n c l B w h hn
end Go.Proofs.YtfggeofknmdmfaaDoor.U
