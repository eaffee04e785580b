/- NfcTwice answers true at any list; nothing that was there is changed. -/
import Derived.Test.YtfgpgmfajjakpaaDoorW0
namespace Go.Proofs.YtfgpgmfajjakpaaDoor.U
open Go.RowKit
set_option linter.unusedVariables false

set_option maxRecDepth 1000000 in
set_option maxHeartbeats 4000000 in
theorem walk_twice (A : Option Addr) (n c : Nat) (l : List Int) (w : World) (hS : Sp w) (h : Came .i32 w A n c l) :
    Calls Tryd.prog 3 #[.slice A n c] w (BoolIs w true) := by
  obtain ⟨hl, hc, hrd, hnil, _⟩ := h
  by_cases hn : 200 < n
  · have H := Lib.hid (answers_is w hS)
    have q : (200 : Int) < (n : Int) := by omega
    clear hl hrd hnil hS
    go_enter Tryd.func3, Tryd.ntmps3
    go_wp2_with fail
    with_reducible refine H.out.mono ?_
    rintro e w1 ⟨rfl, h1⟩
    go_wp2
    go_ret
    exact ⟨rfl, h1⟩
  · have q : ¬ (200 : Int) < (n : Int) := by omega
    obtain ⟨d, hO⟩ := ord_ex (apL l)
    obtain ⟨k, hk⟩ : ∃ k, d.length = k := ⟨_, rfl⟩
    obtain ⟨L, hL⟩ : ∃ L, nfc d = L := ⟨_, rfl⟩
    obtain ⟨m, hm⟩ : ∃ m, L.length = m := ⟨_, rfl⟩
    have hk6 : k ≤ 600 := by
      have h1 := hO.1.length
      have h2 := apL_max l
      omega
    have hmk : m ≤ k := by
      have h1 := nfc_len d
      rw [hL, hm] at h1
      omega
    have hO1 : Ord (apL L) d := by rw [← hL]; exact nfc_of hO
    have hO2 : Ord (apL d) d := nfd_of hO
    have HA : Hid (∀ w', Bel w w' → Calls Tryd.prog 6 #[] w' (BoolIs w' true)) := Lib.hid fun w' h => answers_is w' (hS.by h)
    have HC0 : Hid (Calls Tryd.prog 7 #[.slice A n c] w (OwnIs w L m)) := Lib.hid (nfc_as A n c _ l d L m w hrd hl (by omega) hS hO hL hm)
    have HD0 : Hid (∀ w', Bel w w' → Calls Tryd.prog 8 #[.slice A n c] w' (OwnIs w' d k)) := Lib.hid fun w' h => nfd_as A n c _ l d k w' (hrd.bel h) hl (by omega) (hS.by h) hO hk
    have HC1 : Hid (∀ w' B1 A1 c1, Bel w w' → Rd w' B1 .i32 A1 L → Calls Tryd.prog 7 #[.slice A1 m c1] w' (OwnIs w' L m)) := Lib.hid fun w' B1 A1 c1 h h1 => nfc_as A1 m c1 _ L d L m w' h1 hm (by omega) (hS.by h) hO1 hL hm
    have HC2 : Hid (∀ w' B1 A1 c1, Bel w w' → Rd w' B1 .i32 A1 d → Calls Tryd.prog 7 #[.slice A1 k c1] w' (OwnIs w' L m)) := Lib.hid fun w' B1 A1 c1 h h1 => nfc_as A1 k c1 _ d d L m w' h1 hk (by omega) (hS.by h) hO2 hL hm
    have HD1 : Hid (∀ w' B1 A1 c1, Bel w w' → Rd w' B1 .i32 A1 L → Calls Tryd.prog 8 #[.slice A1 m c1] w' (OwnIs w' d k)) := Lib.hid fun w' B1 A1 c1 h h1 => nfd_as A1 m c1 _ L d k w' h1 hm (by omega) (hS.by h) hO1 hk
    have HI : Hid (∀ w' B1 A1 c1, Bel w w' → Rd w' B1 .i32 A1 L → Calls Tryd.prog 10 #[.slice A1 m c1] w' (BoolIs w' true)) := Lib.hid fun w' B1 A1 c1 h h1 => isfc_is A1 m c1 _ L d true w' h1 hm (by omega) (hS.by h) hO1 (by simp [hL])
    have HS1 : Hid (∀ w' B1 A1 c1, Bel w w' → Rd w' B1 .i32 A1 L → Calls Tryd.prog 11 #[.slice A n c, .slice A1 m c1] w' (BoolIs w' true)) := Lib.hid fun w' B1 A1 c1 h h1 => same_is A A1 n m c c1 _ _ l L d d true w' (hrd.bel h) hl (by omega) h1 hm (by omega) (hS.by h) hO hO1 (by simp)
    have HS2 : Hid (∀ w' B1 A1 c1, Bel w w' → Rd w' B1 .i32 A1 d → Calls Tryd.prog 11 #[.slice A n c, .slice A1 k c1] w' (BoolIs w' true)) := Lib.hid fun w' B1 A1 c1 h h1 => same_is A A1 n k c c1 _ _ l d d d true w' (hrd.bel h) hl (by omega) h1 hk (by omega) (hS.by h) hO hO2 (by simp)
    have HE1 : Hid (∀ w' B1 B2 A1 A2 c1 c2, Rd w' B1 .i32 A1 L → Rd w' B2 .i32 A2 L → Calls Tryd.prog 9 #[.slice A1 m c1, .slice A2 m c2] w' (BoolIs w' true)) := Lib.hid fun w' B1 B2 A1 A2 c1 c2 h1 h2 => runes_b A1 A2 m m c1 c2 L L _ _ true w' h1 h2 hm hm (by omega) (by simp)
    have HE2 : Hid (∀ w' B1 B2 A1 A2 c1 c2, Rd w' B1 .i32 A1 d → Rd w' B2 .i32 A2 d → Calls Tryd.prog 9 #[.slice A1 k c1, .slice A2 k c2] w' (BoolIs w' true)) := Lib.hid fun w' B1 B2 A1 A2 c1 c2 h1 h2 => runes_b A1 A2 k k c1 c2 d d _ _ true w' h1 h2 hk hk (by omega) (by simp)
    have qmk : (m : Int) ≤ (k : Int) := by omega
    clear hl hrd hnil hS hO hk hL hm hO1 hO2
    go_enter Tryd.func3, Tryd.ntmps3
    have H1 := Lib.hid (HC0.out)
    go_wp2_with fail
    with_reducible refine H1.out.mono ?_
    rintro e w1 ⟨Ac, cc, rfl, _, _, Rc_1, _, h1⟩
    have b1 := Lib.hid h1
    clear h1 H1
    have H2 := Lib.hid (HD0.out w1 b1.out)
    go_wp2_with fail
    with_reducible refine H2.out.mono ?_
    rintro e w2 ⟨Ad, cd, rfl, _, _, Rd_2, _, h2⟩
    have b2 := Lib.hid (b1.out.trans h2)
    have Rc_2 := Lib.hid (Rc_1.out.bel h2)
    clear h2 H2 Rc_1
    have H3 := Lib.hid (HA.out w2 b2.out)
    go_wp2_with fail
    with_reducible refine H3.out.mono ?_
    rintro e w3 ⟨rfl, h3⟩
    have b3 := Lib.hid (b2.out.trans h3)
    have Rc_3 := Lib.hid (Rc_2.out.bel h3)
    have Rd_3 := Lib.hid (Rd_2.out.bel h3)
    clear h3 H3 Rc_2 Rd_2
    have H4 := Lib.hid (HC1.out w3 _ Ac cc b3.out Rc_3.out)
    go_wp2_with fail
    with_reducible refine H4.out.mono ?_
    rintro e w4 ⟨Ax, cx, rfl, _, _, Rx_4, _, h4⟩
    have b4 := Lib.hid (b3.out.trans h4)
    have Rc_4 := Lib.hid (Rc_3.out.bel h4)
    have Rd_4 := Lib.hid (Rd_3.out.bel h4)
    clear h4 H4 Rc_3 Rd_3
    have H5 := Lib.hid (HE1.out w4 _ _ Ax Ac cx cc Rx_4.out Rc_4.out)
    go_wp2_with fail
    with_reducible refine H5.out.mono ?_
    rintro e w5 ⟨rfl, h5⟩
    have b5 := Lib.hid (b4.out.trans h5)
    have Rc_5 := Lib.hid (Rc_4.out.bel h5)
    have Rd_5 := Lib.hid (Rd_4.out.bel h5)
    clear h5 H5 Rc_4 Rd_4
    have H6 := Lib.hid (HC2.out w5 _ Ad cd b5.out Rd_5.out)
    go_wp2_with fail
    with_reducible refine H6.out.mono ?_
    rintro e w6 ⟨Ay, cy, rfl, _, _, Ry_6, _, h6⟩
    have b6 := Lib.hid (b5.out.trans h6)
    have Rc_6 := Lib.hid (Rc_5.out.bel h6)
    have Rd_6 := Lib.hid (Rd_5.out.bel h6)
    clear h6 H6 Rc_5 Rd_5
    have H7 := Lib.hid (HE1.out w6 _ _ Ay Ac cy cc Ry_6.out Rc_6.out)
    go_wp2_with fail
    with_reducible refine H7.out.mono ?_
    rintro e w7 ⟨rfl, h7⟩
    have b7 := Lib.hid (b6.out.trans h7)
    have Rc_7 := Lib.hid (Rc_6.out.bel h7)
    have Rd_7 := Lib.hid (Rd_6.out.bel h7)
    clear h7 H7 Rc_6 Rd_6
    have H8 := Lib.hid (HD1.out w7 _ Ac cc b7.out Rc_7.out)
    go_wp2_with fail
    with_reducible refine H8.out.mono ?_
    rintro e w8 ⟨Az, cz, rfl, _, _, Rz_8, _, h8⟩
    have b8 := Lib.hid (b7.out.trans h8)
    have Rc_8 := Lib.hid (Rc_7.out.bel h8)
    have Rd_8 := Lib.hid (Rd_7.out.bel h8)
    clear h8 H8 Rc_7 Rd_7
    have H9 := Lib.hid (HE2.out w8 _ _ Az Ad cz cd Rz_8.out Rd_8.out)
    go_wp2_with fail
    with_reducible refine H9.out.mono ?_
    rintro e w9 ⟨rfl, h9⟩
    have b9 := Lib.hid (b8.out.trans h9)
    have Rc_9 := Lib.hid (Rc_8.out.bel h9)
    have Rd_9 := Lib.hid (Rd_8.out.bel h9)
    clear h9 H9 Rc_8 Rd_8
    have H10 := Lib.hid (HI.out w9 _ Ac cc b9.out Rc_9.out)
    go_wp2_with fail
    with_reducible refine H10.out.mono ?_
    rintro e w10 ⟨rfl, h10⟩
    have b10 := Lib.hid (b9.out.trans h10)
    have Rc_10 := Lib.hid (Rc_9.out.bel h10)
    have Rd_10 := Lib.hid (Rd_9.out.bel h10)
    clear h10 H10 Rc_9 Rd_9
    have H11 := Lib.hid (HS1.out w10 _ Ac cc b10.out Rc_10.out)
    go_wp2_with fail
    with_reducible refine H11.out.mono ?_
    rintro e w11 ⟨rfl, h11⟩
    have b11 := Lib.hid (b10.out.trans h11)
    have Rc_11 := Lib.hid (Rc_10.out.bel h11)
    have Rd_11 := Lib.hid (Rd_10.out.bel h11)
    clear h11 H11 Rc_10 Rd_10
    have H12 := Lib.hid (HS2.out w11 _ Ad cd b11.out Rd_11.out)
    go_wp2_with fail
    with_reducible refine H12.out.mono ?_
    rintro e w12 ⟨rfl, h12⟩
    have b12 := Lib.hid (b11.out.trans h12)
    have Rc_12 := Lib.hid (Rc_11.out.bel h12)
    have Rd_12 := Lib.hid (Rd_11.out.bel h12)
    clear h12 H12 Rc_11 Rd_11
    go_wp2
    go_ret
    exact ⟨by first | rfl | (refine ret_bool ?_; simp; omega), b12.out⟩
end Go.Proofs.YtfgpgmfajjakpaaDoor.U
