/- SetsApart's walk where both escapes are there: it answers true. -/
import Derived.Test.YtmghmhhiahmjaaaDoorWApart
namespace Go.Proofs.YtmghmhhiahmjaaaDoor.U
open Go.RowKit
set_option linter.unusedVariables false

/-- What is known of one escape. -/
def Known (side set : Int) (l : List Int) (m K : Nat) : Prop :=
  Valid side set ∧ desL side set = l ∧ l.length = m ∧ 2 ≤ m ∧ m ≤ 4 ∧ (∀ x ∈ l, 0 ≤ x ∧ x < 256) ∧ l[0]? = some 27 ∧ escs[K]? = some (l, side, set) ∧ ∀ e ∈ escs.take K, ¬ e.1 <+: l
theorem known_of {side set : Int} (hv : Valid side set) : Known side set (desL side set) (desL side set).length (placeOf (side, set)) := by
  obtain ⟨_, h1, h2, h3, h4, _, h5, h6⟩ := pairs_ok _ (valid_mem hv)
  exact ⟨hv, rfl, rfl, h2, h3, h1, h4, h5, h6⟩

set_option maxRecDepth 100000 in
set_option maxHeartbeats 4000000 in
theorem apart0_same (a b c d s1 s2 : Int) (l1 l2 : List Int) (m1 m2 K1 K2 : Nat) (w : World) (hT : Tb w) (ha : 0 ≤ a ∧ a < 256) (hb : 0 ≤ b ∧ b < 256) (hc : 0 ≤ c ∧ c < 256) (hd : 0 ≤ d ∧ d < 256)
    (ea : a % 2 = 0) (eb : b % 14 = s1) (ec : c % 2 = 0) (ed : d % 14 = s1) (h1 : Known 0 s1 l1 m1 K1) :
    Calls Tryd.prog 4 #[.int .u8 a, .int .u8 b, .int .u8 c, .int .u8 d] w fun e w' => e = .returned (.bool true) ∧ Bel w w' := by
  obtain ⟨v1, e1, n1, p1, q1, r1, z1, x1, y1⟩ := h1
  have v2 := v1
  have e2 := e1
  have n2 := n1
  have HT := Lib.hid hT
  have V1 := Lib.hid v1
  have E1 := Lib.hid e1
  have N1 := Lib.hid n1
  have P1 := Lib.hid p1
  have Q1 := Lib.hid q1
  have R1 := Lib.hid r1
  have Z1 := Lib.hid z1
  have X1 := Lib.hid x1
  have Y1 := Lib.hid y1
  have V2 := Lib.hid v2
  have E2 := Lib.hid e2
  have N2 := Lib.hid n2
  obtain ⟨ha0, ha1⟩ := ha
  obtain ⟨hb0, hb1⟩ := hb
  obtain ⟨hc0, hc1⟩ := hc
  obtain ⟨hd0, hd1⟩ := hd
  have t1 : (s1 != s1) = false := by simp
  have t2 : ((m1 : Int) != (m1 : Int)) = false := by simp
  have t3 : (s1 == s1) = true := by simp
  have j1 : (m1 : Int) ≤ (m1 : Int) := by omega
  have j0 : (0 : Int) ≤ (m1 : Int) := by omega
  clear hT v1 e1 n1 r1 z1 x1 y1 v2 e2 n2
  go_enter Tryd.func4, Tryd.ntmps4
  go_wp2_with fail
  refine (des_yes 0 s1 l1 m1 w HT.out V1.out E1.out N1.out).mono ?_
  rintro e w1 ⟨g1, c1, rfl, hc1, hr1, hb1⟩
  have HR1 := Lib.hid hr1
  clear hr1
  go_wp2_with fail
  refine (des_yes 0 s1 l1 m1 w1 (HT.out.bel hb1) V2.out E2.out N2.out).mono ?_
  rintro e w2 ⟨g2, c2, rfl, hc2, hr2, hb2⟩
  have HR2 := Lib.hid hr2
  clear hr2
  go_wp2_with fail
  refine (answers_any w2 ((HT.out.bel hb1).bel hb2)).mono ?_
  rintro e w3 ⟨rfl, hb3⟩
  go_wp2_with fail
  refine (next_is g1 c1 m1 K1 l1 0 s1 w3 ((HR1.out.bel hb2).bel hb3).here N1.out hc1 P1.out Q1.out R1.out Z1.out X1.out Y1.out (by omega)).mono ?_
  rintro e w4 ⟨rfl, hb4⟩
  rw [show st 0 s1 = .agg #[.int .i64 s1, .int .i64 0] from rfl]
  have i0 : (m1 : Int) ≤ (c1 : Int) := by omega
  have i1 : (m1 : Int) ≤ (c2 : Int) := by omega
  go_wp2_with fail
  refine (same_is (some ⟨g1, 0, none⟩) (some ⟨g2, 0, none⟩) m1 m1 c1 c2 l1 l1 _ _ true _ (((((HR1.out.bel hb2).bel hb3).bel hb4).alloc _).alloc _) ((((HR2.out.bel hb3).bel hb4).alloc _).alloc _) N1.out N1.out (by have := Q1.out; omega) (by simp)).mono ?_
  rintro e w5 ⟨rfl, q, rfl⟩
  go_wp2
  go_ret
  exact ⟨rfl, ((((((hb1.trans hb2).trans hb3).trans hb4).alloc _).alloc _).drewN q)⟩

set_option maxRecDepth 100000 in
set_option maxHeartbeats 4000000 in
theorem apart0_otherle (a b c d s1 s2 : Int) (l1 l2 : List Int) (m1 m2 K1 K2 : Nat) (w : World) (hT : Tb w) (ha : 0 ≤ a ∧ a < 256) (hb : 0 ≤ b ∧ b < 256) (hc : 0 ≤ c ∧ c < 256) (hd : 0 ≤ d ∧ d < 256)
    (ea : a % 2 = 0) (eb : b % 14 = s1) (ec : c % 2 = 1) (ed : d % 14 = s2) (h1 : Known 0 s1 l1 m1 K1) (h2 : Known 1 s2 l2 m2 K2) (hle : m1 ≤ m2) (hp : ¬ l1 <+: l2) :
    Calls Tryd.prog 4 #[.int .u8 a, .int .u8 b, .int .u8 c, .int .u8 d] w fun e w' => e = .returned (.bool true) ∧ Bel w w' := by
  obtain ⟨v1, e1, n1, p1, q1, r1, z1, x1, y1⟩ := h1
  obtain ⟨v2, e2, n2, p2, q2, r2, z2, x2, y2⟩ := h2
  have HT := Lib.hid hT
  have V1 := Lib.hid v1
  have E1 := Lib.hid e1
  have N1 := Lib.hid n1
  have P1 := Lib.hid p1
  have Q1 := Lib.hid q1
  have R1 := Lib.hid r1
  have Z1 := Lib.hid z1
  have X1 := Lib.hid x1
  have Y1 := Lib.hid y1
  have V2 := Lib.hid v2
  have E2 := Lib.hid e2
  have N2 := Lib.hid n2
  obtain ⟨ha0, ha1⟩ := ha
  obtain ⟨hb0, hb1⟩ := hb
  obtain ⟨hc0, hc1⟩ := hc
  obtain ⟨hd0, hd1⟩ := hd
  have t1 : (s1 != s1) = false := by simp
  have t2 : ((m1 : Int) != (m1 : Int)) = false := by simp
  have j1 : (m1 : Int) ≤ (m2 : Int) := by omega
  have HP := Lib.hid hp
  clear hp
  have j0 : (0 : Int) ≤ (m1 : Int) := by omega
  clear hT v1 e1 n1 r1 z1 x1 y1 v2 e2 n2 p2 q2 r2 z2 x2 y2
  go_enter Tryd.func4, Tryd.ntmps4
  go_wp2_with fail
  refine (des_yes 0 s1 l1 m1 w HT.out V1.out E1.out N1.out).mono ?_
  rintro e w1 ⟨g1, c1, rfl, hc1, hr1, hb1⟩
  have HR1 := Lib.hid hr1
  clear hr1
  go_wp2_with fail
  refine (des_yes 1 s2 l2 m2 w1 (HT.out.bel hb1) V2.out E2.out N2.out).mono ?_
  rintro e w2 ⟨g2, c2, rfl, hc2, hr2, hb2⟩
  have HR2 := Lib.hid hr2
  clear hr2
  go_wp2_with fail
  refine (answers_any w2 ((HT.out.bel hb1).bel hb2)).mono ?_
  rintro e w3 ⟨rfl, hb3⟩
  go_wp2_with fail
  refine (next_is g1 c1 m1 K1 l1 0 s1 w3 ((HR1.out.bel hb2).bel hb3).here N1.out hc1 P1.out Q1.out R1.out Z1.out X1.out Y1.out (by omega)).mono ?_
  rintro e w4 ⟨rfl, hb4⟩
  rw [show st 0 s1 = .agg #[.int .i64 s1, .int .i64 0] from rfl]
  have i0 : (m1 : Int) ≤ (c1 : Int) := by omega
  have i1 : (m1 : Int) ≤ (c2 : Int) := by omega
  go_wp2_with fail
  refine (same_is (some ⟨g1, 0, none⟩) (some ⟨g2, 0, none⟩) m1 m1 c1 c2 l1 (l2.take m1) _ _ false _ (((((HR1.out.bel hb2).bel hb3).bel hb4).alloc _).alloc _) ((((HR2.out.bel hb3).bel hb4).alloc _).alloc _).take N1.out (by rw [List.length_take, N2.out]; omega) (by have := Q1.out; omega) (decide_eq_false fun e => HP.out (by rw [List.prefix_iff_eq_take, N1.out]; exact e))).mono ?_
  rintro e w5 ⟨rfl, q, rfl⟩
  go_wp2
  go_ret
  exact ⟨rfl, ((((((hb1.trans hb2).trans hb3).trans hb4).alloc _).alloc _).drewN q)⟩

set_option maxRecDepth 100000 in
set_option maxHeartbeats 4000000 in
theorem apart0_othergt (a b c d s1 s2 : Int) (l1 l2 : List Int) (m1 m2 K1 K2 : Nat) (w : World) (hT : Tb w) (ha : 0 ≤ a ∧ a < 256) (hb : 0 ≤ b ∧ b < 256) (hc : 0 ≤ c ∧ c < 256) (hd : 0 ≤ d ∧ d < 256)
    (ea : a % 2 = 0) (eb : b % 14 = s1) (ec : c % 2 = 1) (ed : d % 14 = s2) (h1 : Known 0 s1 l1 m1 K1) (h2 : Known 1 s2 l2 m2 K2) (hle : m2 < m1) :
    Calls Tryd.prog 4 #[.int .u8 a, .int .u8 b, .int .u8 c, .int .u8 d] w fun e w' => e = .returned (.bool true) ∧ Bel w w' := by
  obtain ⟨v1, e1, n1, p1, q1, r1, z1, x1, y1⟩ := h1
  obtain ⟨v2, e2, n2, p2, q2, r2, z2, x2, y2⟩ := h2
  have HT := Lib.hid hT
  have V1 := Lib.hid v1
  have E1 := Lib.hid e1
  have N1 := Lib.hid n1
  have P1 := Lib.hid p1
  have Q1 := Lib.hid q1
  have R1 := Lib.hid r1
  have Z1 := Lib.hid z1
  have X1 := Lib.hid x1
  have Y1 := Lib.hid y1
  have V2 := Lib.hid v2
  have E2 := Lib.hid e2
  have N2 := Lib.hid n2
  obtain ⟨ha0, ha1⟩ := ha
  obtain ⟨hb0, hb1⟩ := hb
  obtain ⟨hc0, hc1⟩ := hc
  obtain ⟨hd0, hd1⟩ := hd
  have t1 : (s1 != s1) = false := by simp
  have t2 : ((m1 : Int) != (m1 : Int)) = false := by simp
  have j1 : (m2 : Int) < (m1 : Int) := by omega
  have j0 : (0 : Int) ≤ (m1 : Int) := by omega
  clear hT v1 e1 n1 r1 z1 x1 y1 v2 e2 n2 p2 q2 r2 z2 x2 y2
  go_enter Tryd.func4, Tryd.ntmps4
  go_wp2_with fail
  refine (des_yes 0 s1 l1 m1 w HT.out V1.out E1.out N1.out).mono ?_
  rintro e w1 ⟨g1, c1, rfl, hc1, hr1, hb1⟩
  have HR1 := Lib.hid hr1
  clear hr1
  go_wp2_with fail
  refine (des_yes 1 s2 l2 m2 w1 (HT.out.bel hb1) V2.out E2.out N2.out).mono ?_
  rintro e w2 ⟨g2, c2, rfl, hc2, hr2, hb2⟩
  have HR2 := Lib.hid hr2
  clear hr2
  go_wp2_with fail
  refine (answers_any w2 ((HT.out.bel hb1).bel hb2)).mono ?_
  rintro e w3 ⟨rfl, hb3⟩
  go_wp2_with fail
  refine (next_is g1 c1 m1 K1 l1 0 s1 w3 ((HR1.out.bel hb2).bel hb3).here N1.out hc1 P1.out Q1.out R1.out Z1.out X1.out Y1.out (by omega)).mono ?_
  rintro e w4 ⟨rfl, hb4⟩
  rw [show st 0 s1 = .agg #[.int .i64 s1, .int .i64 0] from rfl]
  go_wp2
  go_ret
  exact ⟨rfl, ((((hb1.trans hb2).trans hb3).trans hb4).alloc _).alloc _⟩

set_option maxRecDepth 100000 in
set_option maxHeartbeats 4000000 in
theorem apart0_nele (a b c d s1 s2 : Int) (l1 l2 : List Int) (m1 m2 K1 K2 : Nat) (w : World) (hT : Tb w) (ha : 0 ≤ a ∧ a < 256) (hb : 0 ≤ b ∧ b < 256) (hc : 0 ≤ c ∧ c < 256) (hd : 0 ≤ d ∧ d < 256)
    (ea : a % 2 = 0) (eb : b % 14 = s1) (ec : c % 2 = 0) (ed : d % 14 = s2) (h1 : Known 0 s1 l1 m1 K1) (h2 : Known 0 s2 l2 m2 K2) (hle : m1 ≤ m2) (hp : ¬ l1 <+: l2) (hne : s1 ≠ s2) :
    Calls Tryd.prog 4 #[.int .u8 a, .int .u8 b, .int .u8 c, .int .u8 d] w fun e w' => e = .returned (.bool true) ∧ Bel w w' := by
  obtain ⟨v1, e1, n1, p1, q1, r1, z1, x1, y1⟩ := h1
  obtain ⟨v2, e2, n2, p2, q2, r2, z2, x2, y2⟩ := h2
  have HT := Lib.hid hT
  have V1 := Lib.hid v1
  have E1 := Lib.hid e1
  have N1 := Lib.hid n1
  have P1 := Lib.hid p1
  have Q1 := Lib.hid q1
  have R1 := Lib.hid r1
  have Z1 := Lib.hid z1
  have X1 := Lib.hid x1
  have Y1 := Lib.hid y1
  have V2 := Lib.hid v2
  have E2 := Lib.hid e2
  have N2 := Lib.hid n2
  obtain ⟨ha0, ha1⟩ := ha
  obtain ⟨hb0, hb1⟩ := hb
  obtain ⟨hc0, hc1⟩ := hc
  obtain ⟨hd0, hd1⟩ := hd
  have t1 : (s1 != s1) = false := by simp
  have t2 : ((m1 : Int) != (m1 : Int)) = false := by simp
  have t3 : (s1 == s2) = false := by simpa using hne
  have j1 : (m1 : Int) ≤ (m2 : Int) := by omega
  have HP := Lib.hid hp
  clear hp
  have j0 : (0 : Int) ≤ (m1 : Int) := by omega
  clear hT v1 e1 n1 r1 z1 x1 y1 v2 e2 n2 p2 q2 r2 z2 x2 y2 hne
  go_enter Tryd.func4, Tryd.ntmps4
  go_wp2_with fail
  refine (des_yes 0 s1 l1 m1 w HT.out V1.out E1.out N1.out).mono ?_
  rintro e w1 ⟨g1, c1, rfl, hc1, hr1, hb1⟩
  have HR1 := Lib.hid hr1
  clear hr1
  go_wp2_with fail
  refine (des_yes 0 s2 l2 m2 w1 (HT.out.bel hb1) V2.out E2.out N2.out).mono ?_
  rintro e w2 ⟨g2, c2, rfl, hc2, hr2, hb2⟩
  have HR2 := Lib.hid hr2
  clear hr2
  go_wp2_with fail
  refine (answers_any w2 ((HT.out.bel hb1).bel hb2)).mono ?_
  rintro e w3 ⟨rfl, hb3⟩
  go_wp2_with fail
  refine (next_is g1 c1 m1 K1 l1 0 s1 w3 ((HR1.out.bel hb2).bel hb3).here N1.out hc1 P1.out Q1.out R1.out Z1.out X1.out Y1.out (by omega)).mono ?_
  rintro e w4 ⟨rfl, hb4⟩
  rw [show st 0 s1 = .agg #[.int .i64 s1, .int .i64 0] from rfl]
  have i0 : (m1 : Int) ≤ (c1 : Int) := by omega
  have i1 : (m1 : Int) ≤ (c2 : Int) := by omega
  go_wp2_with fail
  refine (same_is (some ⟨g1, 0, none⟩) (some ⟨g2, 0, none⟩) m1 m1 c1 c2 l1 (l2.take m1) _ _ false _ (((((HR1.out.bel hb2).bel hb3).bel hb4).alloc _).alloc _) ((((HR2.out.bel hb3).bel hb4).alloc _).alloc _).take N1.out (by rw [List.length_take, N2.out]; omega) (by have := Q1.out; omega) (decide_eq_false fun e => HP.out (by rw [List.prefix_iff_eq_take, N1.out]; exact e))).mono ?_
  rintro e w5 ⟨rfl, q, rfl⟩
  go_wp2
  go_ret
  exact ⟨rfl, ((((((hb1.trans hb2).trans hb3).trans hb4).alloc _).alloc _).drewN q)⟩

set_option maxRecDepth 100000 in
set_option maxHeartbeats 4000000 in
theorem apart0_negt (a b c d s1 s2 : Int) (l1 l2 : List Int) (m1 m2 K1 K2 : Nat) (w : World) (hT : Tb w) (ha : 0 ≤ a ∧ a < 256) (hb : 0 ≤ b ∧ b < 256) (hc : 0 ≤ c ∧ c < 256) (hd : 0 ≤ d ∧ d < 256)
    (ea : a % 2 = 0) (eb : b % 14 = s1) (ec : c % 2 = 0) (ed : d % 14 = s2) (h1 : Known 0 s1 l1 m1 K1) (h2 : Known 0 s2 l2 m2 K2) (hle : m2 < m1) (hne : s1 ≠ s2) :
    Calls Tryd.prog 4 #[.int .u8 a, .int .u8 b, .int .u8 c, .int .u8 d] w fun e w' => e = .returned (.bool true) ∧ Bel w w' := by
  obtain ⟨v1, e1, n1, p1, q1, r1, z1, x1, y1⟩ := h1
  obtain ⟨v2, e2, n2, p2, q2, r2, z2, x2, y2⟩ := h2
  have HT := Lib.hid hT
  have V1 := Lib.hid v1
  have E1 := Lib.hid e1
  have N1 := Lib.hid n1
  have P1 := Lib.hid p1
  have Q1 := Lib.hid q1
  have R1 := Lib.hid r1
  have Z1 := Lib.hid z1
  have X1 := Lib.hid x1
  have Y1 := Lib.hid y1
  have V2 := Lib.hid v2
  have E2 := Lib.hid e2
  have N2 := Lib.hid n2
  obtain ⟨ha0, ha1⟩ := ha
  obtain ⟨hb0, hb1⟩ := hb
  obtain ⟨hc0, hc1⟩ := hc
  obtain ⟨hd0, hd1⟩ := hd
  have t1 : (s1 != s1) = false := by simp
  have t2 : ((m1 : Int) != (m1 : Int)) = false := by simp
  have t3 : (s1 == s2) = false := by simpa using hne
  have j1 : (m2 : Int) < (m1 : Int) := by omega
  have j0 : (0 : Int) ≤ (m1 : Int) := by omega
  clear hT v1 e1 n1 r1 z1 x1 y1 v2 e2 n2 p2 q2 r2 z2 x2 y2 hne
  go_enter Tryd.func4, Tryd.ntmps4
  go_wp2_with fail
  refine (des_yes 0 s1 l1 m1 w HT.out V1.out E1.out N1.out).mono ?_
  rintro e w1 ⟨g1, c1, rfl, hc1, hr1, hb1⟩
  have HR1 := Lib.hid hr1
  clear hr1
  go_wp2_with fail
  refine (des_yes 0 s2 l2 m2 w1 (HT.out.bel hb1) V2.out E2.out N2.out).mono ?_
  rintro e w2 ⟨g2, c2, rfl, hc2, hr2, hb2⟩
  have HR2 := Lib.hid hr2
  clear hr2
  go_wp2_with fail
  refine (answers_any w2 ((HT.out.bel hb1).bel hb2)).mono ?_
  rintro e w3 ⟨rfl, hb3⟩
  go_wp2_with fail
  refine (next_is g1 c1 m1 K1 l1 0 s1 w3 ((HR1.out.bel hb2).bel hb3).here N1.out hc1 P1.out Q1.out R1.out Z1.out X1.out Y1.out (by omega)).mono ?_
  rintro e w4 ⟨rfl, hb4⟩
  rw [show st 0 s1 = .agg #[.int .i64 s1, .int .i64 0] from rfl]
  go_wp2
  go_ret
  exact ⟨rfl, ((((hb1.trans hb2).trans hb3).trans hb4).alloc _).alloc _⟩

set_option maxRecDepth 100000 in
set_option maxHeartbeats 4000000 in
theorem apart1_same (a b c d s1 s2 : Int) (l1 l2 : List Int) (m1 m2 K1 K2 : Nat) (w : World) (hT : Tb w) (ha : 0 ≤ a ∧ a < 256) (hb : 0 ≤ b ∧ b < 256) (hc : 0 ≤ c ∧ c < 256) (hd : 0 ≤ d ∧ d < 256)
    (ea : a % 2 = 1) (eb : b % 14 = s1) (ec : c % 2 = 1) (ed : d % 14 = s1) (h1 : Known 1 s1 l1 m1 K1) :
    Calls Tryd.prog 4 #[.int .u8 a, .int .u8 b, .int .u8 c, .int .u8 d] w fun e w' => e = .returned (.bool true) ∧ Bel w w' := by
  obtain ⟨v1, e1, n1, p1, q1, r1, z1, x1, y1⟩ := h1
  have v2 := v1
  have e2 := e1
  have n2 := n1
  have HT := Lib.hid hT
  have V1 := Lib.hid v1
  have E1 := Lib.hid e1
  have N1 := Lib.hid n1
  have P1 := Lib.hid p1
  have Q1 := Lib.hid q1
  have R1 := Lib.hid r1
  have Z1 := Lib.hid z1
  have X1 := Lib.hid x1
  have Y1 := Lib.hid y1
  have V2 := Lib.hid v2
  have E2 := Lib.hid e2
  have N2 := Lib.hid n2
  obtain ⟨ha0, ha1⟩ := ha
  obtain ⟨hb0, hb1⟩ := hb
  obtain ⟨hc0, hc1⟩ := hc
  obtain ⟨hd0, hd1⟩ := hd
  have t1 : (s1 != s1) = false := by simp
  have t2 : ((m1 : Int) != (m1 : Int)) = false := by simp
  have t3 : (s1 == s1) = true := by simp
  have j1 : (m1 : Int) ≤ (m1 : Int) := by omega
  have j0 : (0 : Int) ≤ (m1 : Int) := by omega
  clear hT v1 e1 n1 r1 z1 x1 y1 v2 e2 n2
  go_enter Tryd.func4, Tryd.ntmps4
  go_wp2_with fail
  refine (des_yes 1 s1 l1 m1 w HT.out V1.out E1.out N1.out).mono ?_
  rintro e w1 ⟨g1, c1, rfl, hc1, hr1, hb1⟩
  have HR1 := Lib.hid hr1
  clear hr1
  go_wp2_with fail
  refine (des_yes 1 s1 l1 m1 w1 (HT.out.bel hb1) V2.out E2.out N2.out).mono ?_
  rintro e w2 ⟨g2, c2, rfl, hc2, hr2, hb2⟩
  have HR2 := Lib.hid hr2
  clear hr2
  go_wp2_with fail
  refine (answers_any w2 ((HT.out.bel hb1).bel hb2)).mono ?_
  rintro e w3 ⟨rfl, hb3⟩
  go_wp2_with fail
  refine (next_is g1 c1 m1 K1 l1 1 s1 w3 ((HR1.out.bel hb2).bel hb3).here N1.out hc1 P1.out Q1.out R1.out Z1.out X1.out Y1.out (by omega)).mono ?_
  rintro e w4 ⟨rfl, hb4⟩
  rw [show st 1 s1 = .agg #[.int .i64 0, .int .i64 s1] from rfl]
  have i0 : (m1 : Int) ≤ (c1 : Int) := by omega
  have i1 : (m1 : Int) ≤ (c2 : Int) := by omega
  go_wp2_with fail
  refine (same_is (some ⟨g1, 0, none⟩) (some ⟨g2, 0, none⟩) m1 m1 c1 c2 l1 l1 _ _ true _ (((((HR1.out.bel hb2).bel hb3).bel hb4).alloc _).alloc _) ((((HR2.out.bel hb3).bel hb4).alloc _).alloc _) N1.out N1.out (by have := Q1.out; omega) (by simp)).mono ?_
  rintro e w5 ⟨rfl, q, rfl⟩
  go_wp2
  go_ret
  exact ⟨rfl, ((((((hb1.trans hb2).trans hb3).trans hb4).alloc _).alloc _).drewN q)⟩

set_option maxRecDepth 100000 in
set_option maxHeartbeats 4000000 in
theorem apart1_otherle (a b c d s1 s2 : Int) (l1 l2 : List Int) (m1 m2 K1 K2 : Nat) (w : World) (hT : Tb w) (ha : 0 ≤ a ∧ a < 256) (hb : 0 ≤ b ∧ b < 256) (hc : 0 ≤ c ∧ c < 256) (hd : 0 ≤ d ∧ d < 256)
    (ea : a % 2 = 1) (eb : b % 14 = s1) (ec : c % 2 = 0) (ed : d % 14 = s2) (h1 : Known 1 s1 l1 m1 K1) (h2 : Known 0 s2 l2 m2 K2) (hle : m1 ≤ m2) (hp : ¬ l1 <+: l2) :
    Calls Tryd.prog 4 #[.int .u8 a, .int .u8 b, .int .u8 c, .int .u8 d] w fun e w' => e = .returned (.bool true) ∧ Bel w w' := by
  obtain ⟨v1, e1, n1, p1, q1, r1, z1, x1, y1⟩ := h1
  obtain ⟨v2, e2, n2, p2, q2, r2, z2, x2, y2⟩ := h2
  have HT := Lib.hid hT
  have V1 := Lib.hid v1
  have E1 := Lib.hid e1
  have N1 := Lib.hid n1
  have P1 := Lib.hid p1
  have Q1 := Lib.hid q1
  have R1 := Lib.hid r1
  have Z1 := Lib.hid z1
  have X1 := Lib.hid x1
  have Y1 := Lib.hid y1
  have V2 := Lib.hid v2
  have E2 := Lib.hid e2
  have N2 := Lib.hid n2
  obtain ⟨ha0, ha1⟩ := ha
  obtain ⟨hb0, hb1⟩ := hb
  obtain ⟨hc0, hc1⟩ := hc
  obtain ⟨hd0, hd1⟩ := hd
  have t1 : (s1 != s1) = false := by simp
  have t2 : ((m1 : Int) != (m1 : Int)) = false := by simp
  have j1 : (m1 : Int) ≤ (m2 : Int) := by omega
  have HP := Lib.hid hp
  clear hp
  have j0 : (0 : Int) ≤ (m1 : Int) := by omega
  clear hT v1 e1 n1 r1 z1 x1 y1 v2 e2 n2 p2 q2 r2 z2 x2 y2
  go_enter Tryd.func4, Tryd.ntmps4
  go_wp2_with fail
  refine (des_yes 1 s1 l1 m1 w HT.out V1.out E1.out N1.out).mono ?_
  rintro e w1 ⟨g1, c1, rfl, hc1, hr1, hb1⟩
  have HR1 := Lib.hid hr1
  clear hr1
  go_wp2_with fail
  refine (des_yes 0 s2 l2 m2 w1 (HT.out.bel hb1) V2.out E2.out N2.out).mono ?_
  rintro e w2 ⟨g2, c2, rfl, hc2, hr2, hb2⟩
  have HR2 := Lib.hid hr2
  clear hr2
  go_wp2_with fail
  refine (answers_any w2 ((HT.out.bel hb1).bel hb2)).mono ?_
  rintro e w3 ⟨rfl, hb3⟩
  go_wp2_with fail
  refine (next_is g1 c1 m1 K1 l1 1 s1 w3 ((HR1.out.bel hb2).bel hb3).here N1.out hc1 P1.out Q1.out R1.out Z1.out X1.out Y1.out (by omega)).mono ?_
  rintro e w4 ⟨rfl, hb4⟩
  rw [show st 1 s1 = .agg #[.int .i64 0, .int .i64 s1] from rfl]
  have i0 : (m1 : Int) ≤ (c1 : Int) := by omega
  have i1 : (m1 : Int) ≤ (c2 : Int) := by omega
  go_wp2_with fail
  refine (same_is (some ⟨g1, 0, none⟩) (some ⟨g2, 0, none⟩) m1 m1 c1 c2 l1 (l2.take m1) _ _ false _ (((((HR1.out.bel hb2).bel hb3).bel hb4).alloc _).alloc _) ((((HR2.out.bel hb3).bel hb4).alloc _).alloc _).take N1.out (by rw [List.length_take, N2.out]; omega) (by have := Q1.out; omega) (decide_eq_false fun e => HP.out (by rw [List.prefix_iff_eq_take, N1.out]; exact e))).mono ?_
  rintro e w5 ⟨rfl, q, rfl⟩
  go_wp2
  go_ret
  exact ⟨rfl, ((((((hb1.trans hb2).trans hb3).trans hb4).alloc _).alloc _).drewN q)⟩

set_option maxRecDepth 100000 in
set_option maxHeartbeats 4000000 in
theorem apart1_othergt (a b c d s1 s2 : Int) (l1 l2 : List Int) (m1 m2 K1 K2 : Nat) (w : World) (hT : Tb w) (ha : 0 ≤ a ∧ a < 256) (hb : 0 ≤ b ∧ b < 256) (hc : 0 ≤ c ∧ c < 256) (hd : 0 ≤ d ∧ d < 256)
    (ea : a % 2 = 1) (eb : b % 14 = s1) (ec : c % 2 = 0) (ed : d % 14 = s2) (h1 : Known 1 s1 l1 m1 K1) (h2 : Known 0 s2 l2 m2 K2) (hle : m2 < m1) :
    Calls Tryd.prog 4 #[.int .u8 a, .int .u8 b, .int .u8 c, .int .u8 d] w fun e w' => e = .returned (.bool true) ∧ Bel w w' := by
  obtain ⟨v1, e1, n1, p1, q1, r1, z1, x1, y1⟩ := h1
  obtain ⟨v2, e2, n2, p2, q2, r2, z2, x2, y2⟩ := h2
  have HT := Lib.hid hT
  have V1 := Lib.hid v1
  have E1 := Lib.hid e1
  have N1 := Lib.hid n1
  have P1 := Lib.hid p1
  have Q1 := Lib.hid q1
  have R1 := Lib.hid r1
  have Z1 := Lib.hid z1
  have X1 := Lib.hid x1
  have Y1 := Lib.hid y1
  have V2 := Lib.hid v2
  have E2 := Lib.hid e2
  have N2 := Lib.hid n2
  obtain ⟨ha0, ha1⟩ := ha
  obtain ⟨hb0, hb1⟩ := hb
  obtain ⟨hc0, hc1⟩ := hc
  obtain ⟨hd0, hd1⟩ := hd
  have t1 : (s1 != s1) = false := by simp
  have t2 : ((m1 : Int) != (m1 : Int)) = false := by simp
  have j1 : (m2 : Int) < (m1 : Int) := by omega
  have j0 : (0 : Int) ≤ (m1 : Int) := by omega
  clear hT v1 e1 n1 r1 z1 x1 y1 v2 e2 n2 p2 q2 r2 z2 x2 y2
  go_enter Tryd.func4, Tryd.ntmps4
  go_wp2_with fail
  refine (des_yes 1 s1 l1 m1 w HT.out V1.out E1.out N1.out).mono ?_
  rintro e w1 ⟨g1, c1, rfl, hc1, hr1, hb1⟩
  have HR1 := Lib.hid hr1
  clear hr1
  go_wp2_with fail
  refine (des_yes 0 s2 l2 m2 w1 (HT.out.bel hb1) V2.out E2.out N2.out).mono ?_
  rintro e w2 ⟨g2, c2, rfl, hc2, hr2, hb2⟩
  have HR2 := Lib.hid hr2
  clear hr2
  go_wp2_with fail
  refine (answers_any w2 ((HT.out.bel hb1).bel hb2)).mono ?_
  rintro e w3 ⟨rfl, hb3⟩
  go_wp2_with fail
  refine (next_is g1 c1 m1 K1 l1 1 s1 w3 ((HR1.out.bel hb2).bel hb3).here N1.out hc1 P1.out Q1.out R1.out Z1.out X1.out Y1.out (by omega)).mono ?_
  rintro e w4 ⟨rfl, hb4⟩
  rw [show st 1 s1 = .agg #[.int .i64 0, .int .i64 s1] from rfl]
  go_wp2
  go_ret
  exact ⟨rfl, ((((hb1.trans hb2).trans hb3).trans hb4).alloc _).alloc _⟩

set_option maxRecDepth 100000 in
set_option maxHeartbeats 4000000 in
theorem apart1_nele (a b c d s1 s2 : Int) (l1 l2 : List Int) (m1 m2 K1 K2 : Nat) (w : World) (hT : Tb w) (ha : 0 ≤ a ∧ a < 256) (hb : 0 ≤ b ∧ b < 256) (hc : 0 ≤ c ∧ c < 256) (hd : 0 ≤ d ∧ d < 256)
    (ea : a % 2 = 1) (eb : b % 14 = s1) (ec : c % 2 = 1) (ed : d % 14 = s2) (h1 : Known 1 s1 l1 m1 K1) (h2 : Known 1 s2 l2 m2 K2) (hle : m1 ≤ m2) (hp : ¬ l1 <+: l2) (hne : s1 ≠ s2) :
    Calls Tryd.prog 4 #[.int .u8 a, .int .u8 b, .int .u8 c, .int .u8 d] w fun e w' => e = .returned (.bool true) ∧ Bel w w' := by
  obtain ⟨v1, e1, n1, p1, q1, r1, z1, x1, y1⟩ := h1
  obtain ⟨v2, e2, n2, p2, q2, r2, z2, x2, y2⟩ := h2
  have HT := Lib.hid hT
  have V1 := Lib.hid v1
  have E1 := Lib.hid e1
  have N1 := Lib.hid n1
  have P1 := Lib.hid p1
  have Q1 := Lib.hid q1
  have R1 := Lib.hid r1
  have Z1 := Lib.hid z1
  have X1 := Lib.hid x1
  have Y1 := Lib.hid y1
  have V2 := Lib.hid v2
  have E2 := Lib.hid e2
  have N2 := Lib.hid n2
  obtain ⟨ha0, ha1⟩ := ha
  obtain ⟨hb0, hb1⟩ := hb
  obtain ⟨hc0, hc1⟩ := hc
  obtain ⟨hd0, hd1⟩ := hd
  have t1 : (s1 != s1) = false := by simp
  have t2 : ((m1 : Int) != (m1 : Int)) = false := by simp
  have t3 : (s1 == s2) = false := by simpa using hne
  have j1 : (m1 : Int) ≤ (m2 : Int) := by omega
  have HP := Lib.hid hp
  clear hp
  have j0 : (0 : Int) ≤ (m1 : Int) := by omega
  clear hT v1 e1 n1 r1 z1 x1 y1 v2 e2 n2 p2 q2 r2 z2 x2 y2 hne
  go_enter Tryd.func4, Tryd.ntmps4
  go_wp2_with fail
  refine (des_yes 1 s1 l1 m1 w HT.out V1.out E1.out N1.out).mono ?_
  rintro e w1 ⟨g1, c1, rfl, hc1, hr1, hb1⟩
  have HR1 := Lib.hid hr1
  clear hr1
  go_wp2_with fail
  refine (des_yes 1 s2 l2 m2 w1 (HT.out.bel hb1) V2.out E2.out N2.out).mono ?_
  rintro e w2 ⟨g2, c2, rfl, hc2, hr2, hb2⟩
  have HR2 := Lib.hid hr2
  clear hr2
  go_wp2_with fail
  refine (answers_any w2 ((HT.out.bel hb1).bel hb2)).mono ?_
  rintro e w3 ⟨rfl, hb3⟩
  go_wp2_with fail
  refine (next_is g1 c1 m1 K1 l1 1 s1 w3 ((HR1.out.bel hb2).bel hb3).here N1.out hc1 P1.out Q1.out R1.out Z1.out X1.out Y1.out (by omega)).mono ?_
  rintro e w4 ⟨rfl, hb4⟩
  rw [show st 1 s1 = .agg #[.int .i64 0, .int .i64 s1] from rfl]
  have i0 : (m1 : Int) ≤ (c1 : Int) := by omega
  have i1 : (m1 : Int) ≤ (c2 : Int) := by omega
  go_wp2_with fail
  refine (same_is (some ⟨g1, 0, none⟩) (some ⟨g2, 0, none⟩) m1 m1 c1 c2 l1 (l2.take m1) _ _ false _ (((((HR1.out.bel hb2).bel hb3).bel hb4).alloc _).alloc _) ((((HR2.out.bel hb3).bel hb4).alloc _).alloc _).take N1.out (by rw [List.length_take, N2.out]; omega) (by have := Q1.out; omega) (decide_eq_false fun e => HP.out (by rw [List.prefix_iff_eq_take, N1.out]; exact e))).mono ?_
  rintro e w5 ⟨rfl, q, rfl⟩
  go_wp2
  go_ret
  exact ⟨rfl, ((((((hb1.trans hb2).trans hb3).trans hb4).alloc _).alloc _).drewN q)⟩

set_option maxRecDepth 100000 in
set_option maxHeartbeats 4000000 in
theorem apart1_negt (a b c d s1 s2 : Int) (l1 l2 : List Int) (m1 m2 K1 K2 : Nat) (w : World) (hT : Tb w) (ha : 0 ≤ a ∧ a < 256) (hb : 0 ≤ b ∧ b < 256) (hc : 0 ≤ c ∧ c < 256) (hd : 0 ≤ d ∧ d < 256)
    (ea : a % 2 = 1) (eb : b % 14 = s1) (ec : c % 2 = 1) (ed : d % 14 = s2) (h1 : Known 1 s1 l1 m1 K1) (h2 : Known 1 s2 l2 m2 K2) (hle : m2 < m1) (hne : s1 ≠ s2) :
    Calls Tryd.prog 4 #[.int .u8 a, .int .u8 b, .int .u8 c, .int .u8 d] w fun e w' => e = .returned (.bool true) ∧ Bel w w' := by
  obtain ⟨v1, e1, n1, p1, q1, r1, z1, x1, y1⟩ := h1
  obtain ⟨v2, e2, n2, p2, q2, r2, z2, x2, y2⟩ := h2
  have HT := Lib.hid hT
  have V1 := Lib.hid v1
  have E1 := Lib.hid e1
  have N1 := Lib.hid n1
  have P1 := Lib.hid p1
  have Q1 := Lib.hid q1
  have R1 := Lib.hid r1
  have Z1 := Lib.hid z1
  have X1 := Lib.hid x1
  have Y1 := Lib.hid y1
  have V2 := Lib.hid v2
  have E2 := Lib.hid e2
  have N2 := Lib.hid n2
  obtain ⟨ha0, ha1⟩ := ha
  obtain ⟨hb0, hb1⟩ := hb
  obtain ⟨hc0, hc1⟩ := hc
  obtain ⟨hd0, hd1⟩ := hd
  have t1 : (s1 != s1) = false := by simp
  have t2 : ((m1 : Int) != (m1 : Int)) = false := by simp
  have t3 : (s1 == s2) = false := by simpa using hne
  have j1 : (m2 : Int) < (m1 : Int) := by omega
  have j0 : (0 : Int) ≤ (m1 : Int) := by omega
  clear hT v1 e1 n1 r1 z1 x1 y1 v2 e2 n2 p2 q2 r2 z2 x2 y2 hne
  go_enter Tryd.func4, Tryd.ntmps4
  go_wp2_with fail
  refine (des_yes 1 s1 l1 m1 w HT.out V1.out E1.out N1.out).mono ?_
  rintro e w1 ⟨g1, c1, rfl, hc1, hr1, hb1⟩
  have HR1 := Lib.hid hr1
  clear hr1
  go_wp2_with fail
  refine (des_yes 1 s2 l2 m2 w1 (HT.out.bel hb1) V2.out E2.out N2.out).mono ?_
  rintro e w2 ⟨g2, c2, rfl, hc2, hr2, hb2⟩
  have HR2 := Lib.hid hr2
  clear hr2
  go_wp2_with fail
  refine (answers_any w2 ((HT.out.bel hb1).bel hb2)).mono ?_
  rintro e w3 ⟨rfl, hb3⟩
  go_wp2_with fail
  refine (next_is g1 c1 m1 K1 l1 1 s1 w3 ((HR1.out.bel hb2).bel hb3).here N1.out hc1 P1.out Q1.out R1.out Z1.out X1.out Y1.out (by omega)).mono ?_
  rintro e w4 ⟨rfl, hb4⟩
  rw [show st 1 s1 = .agg #[.int .i64 0, .int .i64 s1] from rfl]
  go_wp2
  go_ret
  exact ⟨rfl, ((((hb1.trans hb2).trans hb3).trans hb4).alloc _).alloc _⟩

theorem apart_any (a b c d : Int) (w : World) (hT : Tb w) (ha : 0 ≤ a ∧ a < 256) (hb : 0 ≤ b ∧ b < 256) (hc : 0 ≤ c ∧ c < 256) (hd : 0 ≤ d ∧ d < 256) :
    Calls Tryd.prog 4 #[.int .u8 a, .int .u8 b, .int .u8 c, .int .u8 d] w fun e w' => e = .returned (.bool true) ∧ Bel w w' := by
  obtain ⟨A, ea⟩ : ∃ A, a % 2 = A := ⟨_, rfl⟩
  obtain ⟨C, ec⟩ : ∃ C, c % 2 = C := ⟨_, rfl⟩
  obtain ⟨s1, eb⟩ : ∃ s, b % 14 = s := ⟨_, rfl⟩
  obtain ⟨s2, ed⟩ : ∃ s, d % 14 = s := ⟨_, rfl⟩
  by_cases hv : Valid A s1 ∧ Valid C s2
  · obtain ⟨v1, v2⟩ := hv
    have h1 := known_of v1
    have h2 := known_of v2
    have hap := pairs_apart _ (valid_mem v1) _ (valid_mem v2)
    dsimp only at hap
    have hA : A = 0 ∨ A = 1 := v1.1
    have hC : C = 0 ∨ C = 1 := v2.1
    rcases hA with rfl | rfl <;> rcases hC with rfl | rfl
    · by_cases hs : s1 = s2
      · subst hs
        exact apart0_same a b c d s1 0 _ [] _ 0 _ 0 w hT ha hb hc hd ea eb ec ed h1
      · have hp : ¬ desL 0 s1 <+: desL 0 s2 := fun h => hs (Prod.mk.inj (hap h)).2
        rcases Nat.lt_or_ge (desL 0 s2).length (desL 0 s1).length with hle | hle
        · exact apart0_negt a b c d s1 s2 _ _ _ _ _ _ w hT ha hb hc hd ea eb ec ed h1 h2 hle hs
        · exact apart0_nele a b c d s1 s2 _ _ _ _ _ _ w hT ha hb hc hd ea eb ec ed h1 h2 hle hp hs
    · have hp : ¬ desL 0 s1 <+: desL 1 s2 := fun h => by have := (Prod.mk.inj (hap h)).1; omega
      rcases Nat.lt_or_ge (desL 1 s2).length (desL 0 s1).length with hle | hle
      · exact apart0_othergt a b c d s1 s2 _ _ _ _ _ _ w hT ha hb hc hd ea eb ec ed h1 h2 hle
      · exact apart0_otherle a b c d s1 s2 _ _ _ _ _ _ w hT ha hb hc hd ea eb ec ed h1 h2 hle hp
    · have hp : ¬ desL 1 s1 <+: desL 0 s2 := fun h => by have := (Prod.mk.inj (hap h)).1; omega
      rcases Nat.lt_or_ge (desL 0 s2).length (desL 1 s1).length with hle | hle
      · exact apart1_othergt a b c d s1 s2 _ _ _ _ _ _ w hT ha hb hc hd ea eb ec ed h1 h2 hle
      · exact apart1_otherle a b c d s1 s2 _ _ _ _ _ _ w hT ha hb hc hd ea eb ec ed h1 h2 hle hp
    · by_cases hs : s1 = s2
      · subst hs
        exact apart1_same a b c d s1 0 _ [] _ 0 _ 0 w hT ha hb hc hd ea eb ec ed h1
      · have hp : ¬ desL 1 s1 <+: desL 1 s2 := fun h => hs (Prod.mk.inj (hap h)).2
        rcases Nat.lt_or_ge (desL 1 s2).length (desL 1 s1).length with hle | hle
        · exact apart1_negt a b c d s1 s2 _ _ _ _ _ _ w hT ha hb hc hd ea eb ec ed h1 h2 hle hs
        · exact apart1_nele a b c d s1 s2 _ _ _ _ _ _ w hT ha hb hc hd ea eb ec ed h1 h2 hle hp hs
  · exact apart_no a b c d s1 s2 A C _ _ w hT ha hb hc hd ea eb ec ed rfl rfl (by
      rw [Bool.and_eq_false_iff, decide_eq_false_iff_not, decide_eq_false_iff_not]
      exact Decidable.not_and_iff_or_not.1 hv)
end Go.Proofs.YtmghmhhiahmjaaaDoor.U
