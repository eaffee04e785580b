/- SetsNames' walk: it answers true, where the table of last bytes lies in its variable. -/
import Derived.Test.YtmghmhhiahmjaaaDoorDes
import Derived.Test.YtmghmhhiahmjaaaDoorRDes
namespace Go.Proofs.YtmghmhhiahmjaaaDoor.U
open Go.RowKit
set_option linter.unusedVariables false

/-- A list of that length. -/
def Len (w : World) (n : Nat) (e : Ending) (w' : World) : Prop := ∃ A c, e = .returned (.slice A n c) ∧ Bel w w'
theorem sides_len (s : Int) (n : Nat) (w : World) (h : ((s < 1 ∨ 12 < s) ∧ n = 0) ∨ ((10 ≤ s ∧ s ≤ 12) ∧ n = 1) ∨ ((1 ≤ s ∧ s < 10) ∧ n = 2)) : Calls Tryd.prog 10 #[.int .i64 s] w (Len w n) := by
  rcases h with ⟨h, rfl⟩ | ⟨⟨h, h'⟩, rfl⟩ | ⟨⟨h, h'⟩, rfl⟩
  · exact (sides_no s w (by omega)).mono fun e w' ⟨h1, h2⟩ => ⟨_, _, h1, h2 ▸ Bel.refl _⟩
  · exact (sides_one s w h h').mono fun e w' ⟨g, c, h1, _, _, h2⟩ => ⟨_, _, h1, h2⟩
  · exact (sides_two s w h h').mono fun e w' ⟨g, c, h1, _, _, h2⟩ => ⟨_, _, h1, h2⟩

set_option maxRecDepth 100000 in
set_option maxHeartbeats 4000000 in
theorem names_out (side set : Int) (w : World) (hT : Tb w) (hn : set < 1 ∨ 12 < set) : Calls Tryd.prog 3 #[.int .i64 side, .int .i64 set] w fun e w' => e = .returned (.bool true) ∧ Bel w w' := by
  have HV : Hid (¬ Valid side set) := Lib.hid (by rintro ⟨h1, h2, h3, _⟩; omega)
  have HT := Lib.hid hT
  have HK := Lib.hid hn
  clear hT
  rcases hn with hn | hn
  all_goals
    go_enter Tryd.func3, Tryd.ntmps3
    go_wp2_with fail
    refine (des_no side set w HV.out).mono ?_
    rintro e w1 ⟨rfl, hb1⟩
    go_wp2_with fail
    refine (rdes_is side set none w1 (bestOf_none HV.out)).mono ?_
    rintro e w2 ⟨v, ok, rfl, rfl, hv, hb2⟩
    obtain rfl : v = .slice none 0 0 := hv
    simp only [Option.isSome_none]
    go_wp2_with fail
    refine (final_no set w2 (by have := HK.out; omega)).mono ?_
    rintro e w3 ⟨rfl, rfl⟩
    go_wp2_with fail
    refine (sides_len set 0 w2 (.inl ⟨HK.out, rfl⟩)).mono ?_
    rintro e w4 ⟨A, c, rfl, hb4⟩
    go_wp2_with fail
    refine (answers_any w4 (((HT.out.bel hb1).bel hb2).bel hb4)).mono ?_
    rintro e w5 ⟨rfl, hb5⟩
    go_wp2_with fail
    refine (same_is none none 0 0 0 0 [] [] 0 0 true w5 Rd.nil Rd.nil rfl rfl (by omega) (by simp)).mono ?_
    rintro e w6 ⟨rfl, q, rfl⟩
    go_wp2
    go_ret
    exact ⟨rfl, ((((hb1.trans hb2).trans hb4).trans hb5).drewN q)⟩

set_option maxRecDepth 100000 in
set_option maxHeartbeats 4000000 in
theorem names_bad (side set : Int) (w : World) (hT : Tb w) (k0 : 1 ≤ set) (k1 : set ≤ 12) (hv : ¬ Valid side set) : Calls Tryd.prog 3 #[.int .i64 side, .int .i64 set] w fun e w' => e = .returned (.bool true) ∧ Bel w w' := by
  have HV := Lib.hid hv
  have HT := Lib.hid hT
  have h10 : set < 10 ∨ 10 ≤ set := by omega
  clear hT hv
  rcases h10 with h10 | h10
  · have HS := Lib.hid (fun w => sides_len set 2 w (.inr (.inr ⟨⟨k0, h10⟩, rfl⟩)))
    go_enter Tryd.func3, Tryd.ntmps3
    go_wp2_with fail
    refine (des_no side set w HV.out).mono ?_
    rintro e w1 ⟨rfl, hb1⟩
    go_wp2_with fail
    refine (rdes_is side set none w1 (bestOf_none HV.out)).mono ?_
    rintro e w2 ⟨v, ok, rfl, rfl, hv, hb2⟩
    obtain rfl : v = .slice none 0 0 := hv
    simp only [Option.isSome_none]
    go_wp2_with fail
    refine (final_yes set _ w2 ((HT.out.bel hb1).bel hb2) k0 k1 rfl).mono ?_
    rintro e w3 ⟨rfl, rfl⟩
    go_wp2_with fail
    refine (HS.out w2).mono ?_
    rintro e w4 ⟨A, c, rfl, hb4⟩
    go_wp2_with fail
    refine (answers_any w4 (((HT.out.bel hb1).bel hb2).bel hb4)).mono ?_
    rintro e w5 ⟨rfl, hb5⟩
    go_wp2_with fail
    refine (same_is none none 0 0 0 0 [] [] 0 0 true w5 Rd.nil Rd.nil rfl rfl (by omega) (by simp)).mono ?_
    rintro e w6 ⟨rfl, q, rfl⟩
    go_wp2
    go_ret
    exact ⟨rfl, ((((hb1.trans hb2).trans hb4).trans hb5).drewN q)⟩
  · have HS := Lib.hid (fun w => sides_len set 1 w (.inr (.inl ⟨⟨h10, k1⟩, rfl⟩)))
    go_enter Tryd.func3, Tryd.ntmps3
    go_wp2_with fail
    refine (des_no side set w HV.out).mono ?_
    rintro e w1 ⟨rfl, hb1⟩
    go_wp2_with fail
    refine (rdes_is side set none w1 (bestOf_none HV.out)).mono ?_
    rintro e w2 ⟨v, ok, rfl, rfl, hv, hb2⟩
    obtain rfl : v = .slice none 0 0 := hv
    simp only [Option.isSome_none]
    go_wp2_with fail
    refine (final_yes set _ w2 ((HT.out.bel hb1).bel hb2) k0 k1 rfl).mono ?_
    rintro e w3 ⟨rfl, rfl⟩
    go_wp2_with fail
    refine (HS.out w2).mono ?_
    rintro e w4 ⟨A, c, rfl, hb4⟩
    go_wp2_with fail
    refine (answers_any w4 (((HT.out.bel hb1).bel hb2).bel hb4)).mono ?_
    rintro e w5 ⟨rfl, hb5⟩
    go_wp2_with fail
    refine (same_is none none 0 0 0 0 [] [] 0 0 true w5 Rd.nil Rd.nil rfl rfl (by omega) (by simp)).mono ?_
    rintro e w6 ⟨rfl, q, rfl⟩
    go_wp2
    go_ret
    exact ⟨rfl, ((((hb1.trans hb2).trans hb4).trans hb5).drewN q)⟩

theorem last_at {l : List Int} {z : Int} {j : Nat} (h : l.getLast? = some z) (hl : l.length = j + 1) : l[j]? = some z := by
  rw [List.getLast?_eq_getElem?, hl] at h
  simpa using h

set_option maxRecDepth 100000 in
set_option maxHeartbeats 4000000 in
theorem names_yes (side set : Int) (w : World) (hT : Tb w) (hv : Valid side set) (hz : (desL side set).getLast? = some (lastB set)) : Calls Tryd.prog 3 #[.int .i64 side, .int .i64 set] w fun e w' => e = .returned (.bool true) ∧ Bel w w' := by
  have hp := pairs_ok _ (valid_mem hv)
  dsimp only at hp
  obtain ⟨l, hl⟩ : ∃ l, desL side set = l := ⟨_, rfl⟩
  rw [hl] at hp hz
  obtain ⟨p0, _, p2, p3, _⟩ := hp
  obtain ⟨m, hm⟩ : ∃ m, l.length = m := ⟨_, rfl⟩
  obtain ⟨j, hj⟩ : ∃ j, m = j + 1 := ⟨m - 1, by omega⟩
  obtain ⟨z, hz'⟩ : ∃ z, lastB set = z := ⟨_, rfl⟩
  rw [hz'] at hz
  have HJ : Hid (l[j]? = some z) := Lib.hid (last_at hz (hm.trans hj))
  have HV := Lib.hid hv
  have HT := Lib.hid hT
  have HL := Lib.hid hl
  have HM := Lib.hid hm
  have HZ := Lib.hid hz'
  have HBest := Lib.hid p0
  have HML : Hid (m ≤ 1099511627776) := Lib.hid (by omega)
  have k0 := hv.2.1
  have k1 := hv.2.2.1
  have hmj : (m : Int) - 1 = (j : Int) := by omega
  have hwj : wrap64 (j : Int) = (j : Int) := by unfold wrap64; omega
  have j0 : (0 : Int) ≤ (j : Int) := by omega
  have j1 : (j : Int) < (m : Int) := by omega
  have hzz : (z == z) = true := by simp
  have h10 : set < 10 ∨ 10 ≤ set := by omega
  clear hT hv hl hm hz hz' hj p0 p2 p3
  rcases h10 with h10 | h10
  · have HS := Lib.hid (fun w => sides_len set 2 w (.inr (.inr ⟨⟨k0, h10⟩, rfl⟩)))
    go_enter Tryd.func3, Tryd.ntmps3
    go_wp2_with fail
    refine (des_yes side set l m w HT.out HV.out HL.out HM.out).mono ?_
    rintro e w1 ⟨g1, c1, rfl, hc1, hr1, hb1⟩
    have HR1 := Lib.hid hr1
    clear hr1
    go_wp2_with fail
    refine (rdes_is side set (some l) w1 HBest.out).mono ?_
    rintro e w2 ⟨v, ok, rfl, rfl, ⟨g2, n2, c2, hl2, rfl, hc2, hr2⟩, hb2⟩
    obtain rfl : m = n2 := HM.out.symm.trans hl2
    have HR2 := Lib.hid hr2
    clear hr2 hl2
    simp only [Option.isSome_some]
    go_wp2_with fail
    refine (final_yes set z w2 ((HT.out.bel hb1).bel hb2) k0 k1 HZ.out).mono ?_
    rintro e w3 ⟨rfl, rfl⟩
    go_wp2_with fail
    refine (HS.out w2).mono ?_
    rintro e w4 ⟨A, c, rfl, hb4⟩
    go_wp2_with fail
    refine (answers_any w4 (((HT.out.bel hb1).bel hb2).bel hb4)).mono ?_
    rintro e w5 ⟨rfl, hb5⟩
    go_wp2_with fail
    refine (same_is (some ⟨g1, 0, none⟩) (some ⟨g2, 0, none⟩) m m c1 c2 l l _ _ true w5 (((HR1.out.bel hb2).bel hb4).bel hb5) ((HR2.out.bel hb4).bel hb5) HM.out HM.out HML.out (by simp)).mono ?_
    rintro e w6 ⟨rfl, q, rfl⟩
    have hc := (((HR1.out.bel hb2).bel hb4).bel hb5).at HJ.out
    rw [Nat.zero_add] at hc
    go_wp2
    go_ret
    exact ⟨rfl, ((((hb1.trans hb2).trans hb4).trans hb5).drewN q)⟩
  · have HS := Lib.hid (fun w => sides_len set 1 w (.inr (.inl ⟨⟨h10, k1⟩, rfl⟩)))
    go_enter Tryd.func3, Tryd.ntmps3
    go_wp2_with fail
    refine (des_yes side set l m w HT.out HV.out HL.out HM.out).mono ?_
    rintro e w1 ⟨g1, c1, rfl, hc1, hr1, hb1⟩
    have HR1 := Lib.hid hr1
    clear hr1
    go_wp2_with fail
    refine (rdes_is side set (some l) w1 HBest.out).mono ?_
    rintro e w2 ⟨v, ok, rfl, rfl, ⟨g2, n2, c2, hl2, rfl, hc2, hr2⟩, hb2⟩
    obtain rfl : m = n2 := HM.out.symm.trans hl2
    have HR2 := Lib.hid hr2
    clear hr2 hl2
    simp only [Option.isSome_some]
    go_wp2_with fail
    refine (final_yes set z w2 ((HT.out.bel hb1).bel hb2) k0 k1 HZ.out).mono ?_
    rintro e w3 ⟨rfl, rfl⟩
    go_wp2_with fail
    refine (HS.out w2).mono ?_
    rintro e w4 ⟨A, c, rfl, hb4⟩
    go_wp2_with fail
    refine (answers_any w4 (((HT.out.bel hb1).bel hb2).bel hb4)).mono ?_
    rintro e w5 ⟨rfl, hb5⟩
    go_wp2_with fail
    refine (same_is (some ⟨g1, 0, none⟩) (some ⟨g2, 0, none⟩) m m c1 c2 l l _ _ true w5 (((HR1.out.bel hb2).bel hb4).bel hb5) ((HR2.out.bel hb4).bel hb5) HM.out HM.out HML.out (by simp)).mono ?_
    rintro e w6 ⟨rfl, q, rfl⟩
    have hc := (((HR1.out.bel hb2).bel hb4).bel hb5).at HJ.out
    rw [Nat.zero_add] at hc
    go_wp2
    go_ret
    exact ⟨rfl, ((((hb1.trans hb2).trans hb4).trans hb5).drewN q)⟩

set_option maxRecDepth 100000 in
set_option maxHeartbeats 4000000 in
theorem names_basic (w : World) (hT : Tb w) : Calls Tryd.prog 3 #[.int .i64 0, .int .i64 1] w fun e w' => e = .returned (.bool true) ∧ Bel w w' := by
  have HT := Lib.hid hT
  obtain ⟨l, hl⟩ : ∃ l, [27, 115] = (l : List Int) := ⟨_, rfl⟩
  have HL : Hid (desL 0 1 = l) := Lib.hid hl
  have HM : Hid (l.length = 2) := Lib.hid (by rw [← hl]; rfl)
  have HJ : Hid (l[1]? = some 115) := Lib.hid (by rw [← hl]; rfl)
  have HBest : Hid (bestOf 0 1 escs = some l) := Lib.hid (by rw [← hl]; decide +kernel)
  have HV : Hid (Valid 0 1) := Lib.hid (by decide)
  obtain ⟨z, hz⟩ : ∃ z : Int, 66 = z := ⟨_, rfl⟩
  have HZ : Hid (lastB 1 = z) := Lib.hid hz
  have HML : Hid (2 ≤ 1099511627776) := Lib.hid (by omega)
  have HS := Lib.hid (fun w => sides_len 1 2 w (.inr (.inr ⟨⟨by omega, by omega⟩, rfl⟩)))
  have hzz : ((115 : Int) == z) = false := by rw [← hz]; decide
  clear hT hl hz
  go_enter Tryd.func3, Tryd.ntmps3
  go_wp2_with fail
  refine (des_yes 0 1 l 2 w HT.out HV.out HL.out HM.out).mono ?_
  rintro e w1 ⟨g1, c1, rfl, hc1, hr1, hb1⟩
  have HR1 := Lib.hid hr1
  clear hr1
  go_wp2_with fail
  refine (rdes_is 0 1 (some l) w1 HBest.out).mono ?_
  rintro e w2 ⟨v, ok, rfl, rfl, ⟨g2, n2, c2, hl2, rfl, hc2, hr2⟩, hb2⟩
  obtain rfl : 2 = n2 := HM.out.symm.trans hl2
  have HR2 := Lib.hid hr2
  clear hr2 hl2
  simp only [Option.isSome_some]
  go_wp2_with fail
  refine (final_yes 1 z w2 ((HT.out.bel hb1).bel hb2) (by omega) (by omega) HZ.out).mono ?_
  rintro e w3 ⟨rfl, rfl⟩
  go_wp2_with fail
  refine (HS.out w2).mono ?_
  rintro e w4 ⟨A, c, rfl, hb4⟩
  go_wp2_with fail
  refine (answers_any w4 (((HT.out.bel hb1).bel hb2).bel hb4)).mono ?_
  rintro e w5 ⟨rfl, hb5⟩
  go_wp2_with fail
  refine (same_is (some ⟨g1, 0, none⟩) (some ⟨g2, 0, none⟩) 2 2 c1 c2 l l _ _ true w5 (((HR1.out.bel hb2).bel hb4).bel hb5) ((HR2.out.bel hb4).bel hb5) HM.out HM.out HML.out (by simp)).mono ?_
  rintro e w6 ⟨rfl, q, rfl⟩
  have hc := (((HR1.out.bel hb2).bel hb4).bel hb5).at HJ.out
  rw [Nat.zero_add] at hc
  go_wp2
  go_ret
  exact ⟨rfl, ((((hb1.trans hb2).trans hb4).trans hb5).drewN q)⟩

theorem names_any (side set : Int) (w : World) (hT : Tb w) : Calls Tryd.prog 3 #[.int .i64 side, .int .i64 set] w fun e w' => e = .returned (.bool true) ∧ Bel w w' := by
  by_cases hv : Valid side set
  · rcases (pairs_ok _ (valid_mem hv)).2.2.2.2.2.1 with h | h
    · exact names_yes side set w hT hv h
    · obtain ⟨rfl, rfl⟩ := Prod.mk.inj h
      exact names_basic w hT
  · by_cases h : 1 ≤ set ∧ set ≤ 12
    · exact names_bad side set w hT h.1 h.2 hv
    · exact names_out side set w hT (by omega)
end Go.Proofs.YtmghmhhiahmjaaaDoor.U
