/- NfdTwice answers true at any list; nothing that was there is changed. -/
import Derived.Test.YtagcaloocdgmhaaDoorWOrd
namespace Go.Proofs.YtagcaloocdgmhaaDoor.U
open Go.RowKit
set_option linter.unusedVariables false

theorem free_parts {c : Int} (h : pts c = []) : (c < 44032 ∨ 55204 ≤ c) ∧ ∀ t ∈ twelve, t.1 ≠ c := by
  refine ⟨?_, fun t ht e => twelve_split ht (by rw [e]; exact h)⟩
  rcases pts_ways c with ⟨t, ht, rfl, _⟩ | ⟨e, h1, h2⟩ | ⟨_, e⟩
  · exact absurd h (pts_key ht)
  · rw [h] at e
    have := (parts_len c).2
    rw [← e] at this
    simp at this
    omega
  · have := (parts_len c).2
    rw [e] at this
    simp at this
    omega

set_option maxRecDepth 1000000 in
set_option maxHeartbeats 1600000 in
theorem walk_twice (A : Option Addr) (n c : Nat) (l : List Int) (w : World) (hS : Sp w) (h : Came .i32 w A n c l) :
    Calls Tryd.prog 5 #[.slice A n c] w (BoolIs w true) := by
  obtain ⟨hl, hc, hrd, hnil, _⟩ := h
  have HS := Lib.hid hS
  have HL := Lib.hid hl
  have HR := Lib.hid hrd
  by_cases hn : 300 < n
  · have H := Lib.hid (answers_is w hS)
    have q : (300 : Int) < (n : Int) := by omega
    clear hl hrd hnil hS
    go_enter Tryd.func5, Tryd.ntmps5
    go_wp2_with fail
    with_reducible refine H.out.mono ?_
    rintro e w1 ⟨rfl, h1⟩
    go_wp2
    go_ret
    exact ⟨rfl, h1⟩
  · have q : ¬ (300 : Int) < (n : Int) := by omega
    have H := Lib.hid (nfd_is A n c _ l w hrd hl (by omega) (by have := apL_max l; omega) hS)
    clear hl hrd hnil hS
    go_enter Tryd.func5, Tryd.ntmps5
    go_wp2_with fail
    with_reducible refine H.out.mono ?_
    rintro e w1 ⟨v1, X, rfl, hord, hown, hb1⟩
    obtain ⟨m, hm⟩ : ∃ m, X.length = m := ⟨_, rfl⟩
    obtain ⟨A1, cap1, rfl, hcap1, hrd1, hnil1⟩ := hown.rdn hm
    have hmn : n ≤ m := by
      have h1 := apL_ge l
      have h2 := hord.1.length
      have h3 := HL.out
      omega
    have hm9 : m ≤ 900 := by
      have h1 := apL_max l
      have h2 := hord.1.length
      have h3 := HL.out
      omega
    have HX : Hid (∀ x ∈ X, pts x = []) := Lib.hid fun x hx => apL_end (hord.1.mem.1 hx)
    have HO : Hid (Ord (apL X) X) := Lib.hid (by rw [apL_free HX.out]; exact ord_self hord.2)
    have HM := Lib.hid hm
    have HR1 := Lib.hid hrd1
    have HNIL1 := Lib.hid hnil1
    have HB1 := Lib.hid hb1
    clear H hord hown hm hrd1 hnil1 HR HL
    go_wp2
    go_loopw [4] (fun i wr => OLoop w1 m i wr) (fun i _ => m + 1 - (intOf i).toNat)
    case atStart => exact ⟨0, rfl, by omega, Bel.refl _⟩
    case round =>
      obtain ⟨k, rfl, hk, hbk⟩ := hrel
      by_cases hlt : k < m
      · obtain ⟨x, hx⟩ : ∃ x, X[k]? = some x := ⟨X[k]'(by rw [HM.out]; exact hlt), by simp⟩
        obtain ⟨g, off, rfl, _, hcell⟩ := (HR1.out.bel hbk) k x hx
        obtain ⟨p1, p2⟩ := free_parts (HX.out x (List.mem_of_getElem? hx))
        have H1 := Lib.hid (fun w => rsplit_no x w p2)
        have H2 := Lib.hid (fun w => rparts_no x w p1)
        have q0 : (0 : Int) ≤ (k : Int) := by omega
        have q1 : (k : Int) < (m : Int) := by omega
        clear hx p1 p2
        go_wp2_with fail
        with_reducible refine (H1.out _).mono ?_
        rintro e w2 ⟨rfl, rfl⟩
        go_wp2_with fail
        with_reducible refine (H2.out _).mono ?_
        rintro e w2 ⟨rfl, rfl⟩
        go_wp2
        go_roundw
        case rel => exact ⟨k + 1, by go_num, by omega, hbk⟩
        case measure => simp [intOf]; omega
      · have q1 : ¬ (k : Int) < (m : Int) := by omega
        have hbw := HB1.out.trans hbk
        have H1 := Lib.hid (answers_is wr (HS.out.by hbw))
        go_wp2_with fail
        with_reducible refine H1.out.mono ?_
        rintro e w2 ⟨rfl, h2⟩
        have hbw2 := hbw.trans h2
        have hR2 := HR1.out.bel (hbk.trans h2)
        have HR2 := Lib.hid hR2
        have H2 := Lib.hid (nfd_as A1 m cap1 _ X X m w2 hR2 HM.out (by omega) (HS.out.by hbw2) HO.out HM.out)
        clear H1 hR2
        go_wp2_with fail
        with_reducible refine H2.out.mono ?_
        rintro e w3 ⟨A3, cap3, rfl, _, _, HR3, _, h3⟩
        have hbw3 := hbw2.trans h3
        have HX3 := Lib.hid (HR2.out.bel h3)
        have H3 := Lib.hid (runes_is A3 A1 m m cap3 cap1 X X _ _ true w3 HR3.out HX3.out HM.out HM.out (by omega) (by simp))
        clear H2
        go_wp2_with fail
        with_reducible refine H3.out.mono ?_
        rintro e w4 ⟨rfl, q4, rfl⟩
        have hbw4 := hbw3.drewN q4
        have HX4 : Hid (Rd (w3.drewN q4) w1.heap.size .i32 A1 X) := Lib.hid HX3.out
        have H4 := Lib.hid (isfd_is A1 m cap1 _ X X true (w3.drewN q4) HX4.out HM.out (by omega) (HS.out.by hbw4) HO.out (by simp))
        clear H3 HR3 HX3
        generalize w3.drewN q4 = w5 at hbw4 HX4 H4 ⊢
        go_wp2_with fail
        with_reducible refine H4.out.mono ?_
        rintro e w6 ⟨rfl, h6⟩
        have qmn : (n : Int) ≤ (m : Int) := by omega
        go_wp2
        go_ret
        exact ⟨by first | rfl | (refine ret_bool ?_; simp; omega), hbw4.trans h6⟩
end Go.Proofs.YtagcaloocdgmhaaDoor.U
