/- What slices.stableCmpFunc and slices.SortStableFunc make of a row of marks: it is sorted, stable, at whatever length up to 2^40. -/
import Derived.Test.YtfgpgmfajjakpaaDoorSym3
namespace Go.Proofs.YtfgpgmfajjakpaaDoor.U
open Go.RowKit
set_option linter.unusedVariables false

def B1Rel (base : Nat) (w0 : World) (g off N : Nat) (l : List Int) (a b : Value) (w : World) : Prop :=
  ∃ A : Nat, a = .int .i64 A ∧ b = .int .i64 ((A : Int) + 20) ∧ A ≤ N ∧ Hid (∃ d r, d.length = A ∧ A % 20 = 0 ∧ Blk 20 d ∧ St l (d ++ r) ∧ In base w0 g off (d ++ r) w)
def B2Rel (base : Nat) (w0 : World) (g off N : Nat) (l : List Int) (c : Value) (w : World) : Prop :=
  ∃ bs : Nat, c = .int .i64 bs ∧ 20 ≤ bs ∧ bs ≤ 2 * N + 20 ∧ Hid (∃ t, Blk bs t ∧ St l t ∧ In base w0 g off t w)
def B3Rel (base : Nat) (w0 : World) (g off N bs : Nat) (l : List Int) (a b : Value) (w : World) : Prop :=
  ∃ A : Nat, a = .int .i64 A ∧ b = .int .i64 ((A : Int) + 2 * (bs : Int)) ∧ A ≤ N ∧ Hid (∃ d r, d.length = A ∧ A % (2 * bs) = 0 ∧ Blk (2 * bs) d ∧ Blk bs r ∧ St l (d ++ r) ∧ In base w0 g off (d ++ r) w)
theorem mod_half {A bs : Nat} (h : A % (2 * bs) = 0) : A % bs = 0 := by
  obtain ⟨k, hk⟩ : ∃ k, A = (2 * bs) * k := ⟨A / (2 * bs), by have := Nat.div_add_mod A (2 * bs); omega⟩
  rw [hk, show 2 * bs * k = bs * (2 * k) by rw [Nat.mul_comm 2 bs, Nat.mul_assoc]]
  exact Nat.mul_mod_right _ _
def Stable (base : Nat) (w0 : World) (g off : Nat) (l : List Int) (e : Ending) (w' : World) : Prop := e = .returned (.tuple #[]) ∧ ∃ s', St l s' ∧ Sd s' ∧ In base w0 g off s' w'

set_option maxRecDepth 1000000 in
set_option maxHeartbeats 8000000 in
theorem stable_is (base g off cap N : Nat) (l : List Int) (w0 w : World) (hI : In base w0 g off l w) (hM : Mk l) (hN : l.length = N) (hsz : N ≤ 1099511627776) :
    Calls Tryd.prog 33 #[.slice (some ⟨g, off, none⟩) N cap, .int .i64 N, .func (.func 27) #[] #[]] w (Stable base w0 g off l) := by
  have HI := Lib.hid hI
  have HM := Lib.hid hM
  have HN := Lib.hid hN
  clear hI hM hN
  go_enter Tryd.func33, Tryd.ntmps33
  go_wp2
  go_loopw [7, 8] (fun a b wr => B1Rel base w0 g off N l a b wr) (fun a _ _ => N - (intOf a).toNat)
  case atStart => exact ⟨0, rfl, rfl, Nat.zero_le _, Lib.hid ⟨[], l, rfl, rfl, blk_nil _, St.refl _, HI.out⟩⟩
  case round =>
    clear HI
    obtain ⟨A, rfl, rfl, hAN, HR⟩ := hrel
    by_cases hlt : A + 20 ≤ N
    · obtain ⟨B, hB⟩ : ∃ B, B = A + 20 := ⟨_, rfl⟩
      have zB : (A : Int) + 20 = (B : Int) := by omega
      have HC : Hid (Calls Tryd.prog 52 #[.slice (some ⟨g, off, none⟩) N cap, .int .i64 A, .int .i64 B, .func (.func 27) #[] #[]] wr fun e w' => e = .returned (.tuple #[]) ∧ Hid (∃ d r, d.length = B ∧ B % 20 = 0 ∧ Blk 20 d ∧ St l (d ++ r) ∧ In base w0 g off (d ++ r) w')) := Lib.hid (by
        obtain ⟨d, r, l1, l2, hb, hst, hin⟩ := HR.out
        have hlen := hst.length
        rw [HN.out, List.length_append] at hlen
        obtain ⟨s, q, rfl, l3⟩ := cut_two (X := r) (j := 20) (by omega)
        rw [List.length_append] at hlen
        refine (ins_is base g off cap A B N d s q w0 wr hin l1 (by omega) (fun z hz => HM.out z (hst.mem.1 (by simp [hz]))) (by simp only [List.length_append]; omega) hsz).mono ?_
        rintro e w' ⟨rfl, s', t1, t2, t3⟩
        have l4 := t1.length
        refine ⟨rfl, Lib.hid ⟨d ++ s', q, by rw [List.length_append]; omega, by omega, blk_snoc (by omega) hb (by rw [l1]; exact l2) t2 (by omega), ?_, by simpa using t3⟩⟩
        refine hst.trans ?_
        have := (St.refl d).append (t1.append (St.refl q))
        simpa using this)
      have q1 : (B : Int) ≤ (N : Int) := by omega
      have HB := Lib.hid hB
      clear HR hlt hB
      rw [zB]
      clear zB
      go_wp2_with fail
      with_reducible refine HC.out.mono ?_
      rintro e w1 ⟨rfl, HR⟩
      clear HC
      go_wp2
      go_roundw
      case rel => exact ⟨B, rfl, by go_num, by omega, HR⟩
      case measure => have := HB.out; simp [intOf]; omega
    · have HC : Hid (Calls Tryd.prog 52 #[.slice (some ⟨g, off, none⟩) N cap, .int .i64 A, .int .i64 N, .func (.func 27) #[] #[]] wr fun e w' => e = .returned (.tuple #[]) ∧ Hid (∃ t, Blk 20 t ∧ St l t ∧ In base w0 g off t w')) := Lib.hid (by
        obtain ⟨d, r, l1, l2, hb, hst, hin⟩ := HR.out
        have hlen := hst.length
        rw [HN.out, List.length_append] at hlen
        refine (ins_is base g off cap A N N d r [] w0 wr (by simpa using hin) l1 (by omega) (fun z hz => HM.out z (hst.mem.1 (by simp [hz]))) (by simp only [List.length_append, List.length_nil]; omega) hsz).mono ?_
        rintro e w' ⟨rfl, s', t1, t2, t3⟩
        have l4 := t1.length
        refine ⟨rfl, Lib.hid ⟨d ++ s', blk_snoc (by omega) hb (by rw [l1]; exact l2) t2 (by omega), ?_, by simpa using t3⟩⟩
        exact hst.trans ((St.refl d).append t1))
      have q1 : ¬ (A : Int) + 20 ≤ (N : Int) := by omega
      clear HR hlt
      generalize wr = wo at HC ⊢
      clear wr
      go_wp2_with fail
      with_reducible refine HC.out.mono ?_
      rintro e w1 ⟨rfl, HR⟩
      clear HC
      go_wp2
      go_loopw [6] (fun c wr => B2Rel base w0 g off N l c wr) (fun c _ => 2 * N + 21 - (intOf c).toNat)
      case atStart => exact ⟨20, rfl, Nat.le_refl _, by omega, HR⟩
      case round =>
        clear HR q1
        obtain ⟨bs, rfl, hb0, hb1, HR⟩ := hrel
        by_cases hlt : bs < N
        · have q1 : (bs : Int) < (N : Int) := by omega
          have HR0 : Hid (∃ d r, d.length = 0 ∧ 0 % (2 * bs) = 0 ∧ Blk (2 * bs) d ∧ Blk bs r ∧ St l (d ++ r) ∧ In base w0 g off (d ++ r) wr) := Lib.hid (by
            obtain ⟨t, h1, h2, h3⟩ := HR.out
            exact ⟨[], t, rfl, by simp, blk_nil _, h1, h2, h3⟩)
          clear HR
          generalize wr = wo at HR0 ⊢
          clear wr
          go_wp2
          go_loopw [7, 8] (fun a b wr => B3Rel base w0 g off N bs l a b wr) (fun a _ _ => N - (intOf a).toNat)
          case atStart => exact ⟨0, rfl, by first | rfl | (congr 1; omega), Nat.zero_le _, HR0⟩
          case round =>
            clear HR0
            obtain ⟨A', rfl, rfl, hAN', HR⟩ := hrel
            by_cases hlt2 : A' + 2 * bs ≤ N
            · obtain ⟨B, hB⟩ : ∃ B, B = A' + 2 * bs := ⟨_, rfl⟩
              obtain ⟨M, hM⟩ : ∃ M, M = A' + bs := ⟨_, rfl⟩
              have zB : (A' : Int) + 2 * (bs : Int) = (B : Int) := by omega
              have zM : (A' : Int) + (bs : Int) = (M : Int) := by omega
              have HC : Hid (Calls Tryd.prog 53 #[.slice (some ⟨g, off, none⟩) N cap, .int .i64 A', .int .i64 M, .int .i64 B, .func (.func 27) #[] #[]] wr fun e w' => e = .returned (.tuple #[]) ∧ Hid (∃ d r, d.length = B ∧ B % (2 * bs) = 0 ∧ Blk (2 * bs) d ∧ Blk bs r ∧ St l (d ++ r) ∧ In base w0 g off (d ++ r) w')) := Lib.hid (by
                obtain ⟨d, r, l1, l2, hb, hbr, hst, hin⟩ := HR.out
                have hlen := hst.length
                rw [HN.out, List.length_append] at hlen
                obtain ⟨x, r1, rfl, l3⟩ := cut_two (X := r) (j := bs) (by omega)
                rw [List.length_append] at hlen
                obtain ⟨y, q, rfl, l4⟩ := cut_two (X := r1) (j := bs) (by omega)
                rw [List.length_append] at hlen
                have hbr2 := blk_cut (by omega) hbr (by rw [l3]; exact Nat.mod_self _)
                have hbr3 := blk_cut (by omega) hbr2 (by rw [l4]; exact Nat.mod_self _)
                refine (sym_all (B - A') base g off cap A' M B N d x y q w0 wr hin ⟨l1, by omega, by omega⟩ (fun z hz => HM.out z (hst.mem.1 (by simp at hz ⊢; rcases hz with h | h <;> simp [h]))) (blk_sd hbr (by omega)) (blk_sd hbr2 (by omega)) (by omega) (by omega) (Nat.le_refl _) (by simp only [List.length_append]; omega) hsz).mono ?_
                rintro e w' ⟨rfl, s', t1, t2, t3⟩
                have l5 := t1.length
                rw [List.length_append] at l5
                refine ⟨rfl, Lib.hid ⟨d ++ s', q, by rw [List.length_append]; omega, by rw [hB, Nat.add_mod_right]; exact l2, blk_snoc (by omega) hb (by rw [l1]; exact l2) t2 (by omega), hbr3, ?_, by simpa using t3⟩⟩
                refine hst.trans ?_
                have := (St.refl d).append (t1.append (St.refl q))
                simpa using this)
              have q2 : (B : Int) ≤ (N : Int) := by omega
              clear HR hlt2 hM
              rw [zB]
              clear zB
              have HB := Lib.hid hB
              clear hB
              go_wp2_with fail
              with_reducible refine HC.out.mono ?_
              rintro e w2 ⟨rfl, HR⟩
              clear HC
              go_wp2
              go_roundw
              case rel => exact ⟨B, rfl, by go_num, by omega, HR⟩
              case measure => have := HB.out; simp [intOf]; omega
            · have q2 : ¬ (A' : Int) + 2 * (bs : Int) ≤ (N : Int) := by omega
              obtain ⟨M, hM⟩ : ∃ M, M = A' + bs := ⟨_, rfl⟩
              have zM : (A' : Int) + (bs : Int) = (M : Int) := by omega
              by_cases hMN : M < N
              · have HC : Hid (Calls Tryd.prog 53 #[.slice (some ⟨g, off, none⟩) N cap, .int .i64 A', .int .i64 M, .int .i64 N, .func (.func 27) #[] #[]] wr fun e w' => e = .returned (.tuple #[]) ∧ Hid (∃ t, Blk (2 * bs) t ∧ St l t ∧ In base w0 g off t w')) := Lib.hid (by
                  obtain ⟨d, r, l1, l2, hb, hbr, hst, hin⟩ := HR.out
                  have hlen := hst.length
                  rw [HN.out, List.length_append] at hlen
                  obtain ⟨x, y, rfl, l3⟩ := cut_two (X := r) (j := bs) (by omega)
                  rw [List.length_append] at hlen
                  have hbr2 := blk_cut (by omega) hbr (by rw [l3]; exact Nat.mod_self _)
                  refine (sym_all (N - A') base g off cap A' M N N d x y [] w0 wr (by simpa using hin) ⟨l1, by omega, by omega⟩ (fun z hz => HM.out z (hst.mem.1 (by simp at hz ⊢; rcases hz with h | h <;> simp [h]))) (blk_sd hbr (by omega)) (blk_whole hbr2 (by omega)) (by omega) (by omega) (Nat.le_refl _) (by simp only [List.length_append, List.length_nil]; omega) hsz).mono ?_
                  rintro e w' ⟨rfl, s', t1, t2, t3⟩
                  have l5 := t1.length
                  rw [List.length_append] at l5
                  refine ⟨rfl, Lib.hid ⟨d ++ s', blk_snoc (by omega) hb (by rw [l1]; exact l2) t2 (by omega), ?_, by simpa using t3⟩⟩
                  exact hst.trans ((St.refl d).append t1))
                have q3 : (M : Int) < (N : Int) := by omega
                clear HR hM
                go_wp2_with fail
                with_reducible refine HC.out.mono ?_
                rintro e w2 ⟨rfl, HR⟩
                clear HC
                go_wp2
                go_roundw
                case rel => exact ⟨2 * bs, by first | rfl | (congr 1; omega), by omega, by omega, HR⟩
                case measure => simp [intOf]; omega
              · have HR2 : Hid (∃ t, Blk (2 * bs) t ∧ St l t ∧ In base w0 g off t wr) := Lib.hid (by
                  obtain ⟨d, r, l1, l2, hb, hbr, hst, hin⟩ := HR.out
                  have hlen := hst.length
                  rw [HN.out, List.length_append] at hlen
                  exact ⟨d ++ r, blk_snoc (by omega) hb (by rw [l1]; exact l2) (blk_whole hbr (by omega)) (by omega), hst, hin⟩)
                have q3 : ¬ (M : Int) < (N : Int) := by omega
                clear HR hM
                go_wp2
                go_roundw
                case rel => exact ⟨2 * bs, by first | rfl | (congr 1; omega), by omega, by omega, HR2⟩
                case measure => simp [intOf]; omega
        · have q1 : ¬ (bs : Int) < (N : Int) := by omega
          have hF : Hid (∃ s', St l s' ∧ Sd s' ∧ In base w0 g off s' wr) := Lib.hid (by
            obtain ⟨t, h1, h2, h3⟩ := HR.out
            have := h2.length
            rw [HN.out] at this
            exact ⟨t, h2, blk_whole h1 (by omega), h3⟩)
          clear HR
          go_wp2
          go_end0
          exact ⟨rfl, hF.out⟩

theorem sortStable_is (base g off cap N : Nat) (l : List Int) (w0 w : World) (hI : In base w0 g off l w) (hM : Mk l) (hN : l.length = N) (hsz : N ≤ 1099511627776) :
    Calls Tryd.prog 26 #[.slice (some ⟨g, off, none⟩) N cap, .func (.func 27) #[] #[]] w (Stable base w0 g off l) := by
  have H := Lib.hid (stable_is base g off cap N l w0 w hI hM hN hsz)
  clear hI hM hN
  go_enter Tryd.func26, Tryd.ntmps26
  go_wp2_with fail
  with_reducible refine H.out.mono ?_
  rintro e w1 ⟨rfl, h1⟩
  go_wp2
  go_end0
  exact ⟨rfl, h1⟩
end Go.Proofs.YtfgpgmfajjakpaaDoor.U
