/- NfcKeeps answers true at any list; nothing that was there is changed. -/
import Derived.Test.YtfgpgmfajjakpaaDoorW0
namespace Go.Proofs.YtfgpgmfajjakpaaDoor.U
open Go.RowKit
set_option linter.unusedVariables false

/-- A list of the call's own is written over: nothing that was there ahead of it is changed. -/
def QLoop (w1 : World) (A : Option Addr) (m cap : Nat) (i : Value) (w : World) : Prop :=
  ∃ k : Nat, i = .int .i64 k ∧ k ≤ m ∧ Hid (∃ X : List Int, X.length = m ∧ Own w w1.heap.size 21 .i32 (.slice A m cap) X ∧ Bel w1 w)
/-- Where the next one is stored. -/
theorem qloop_at {w1 w : World} {A : Option Addr} {m cap k : Nat} (hk : k < m) (h : ∃ X : List Int, X.length = m ∧ Own w w1.heap.size 21 .i32 (.slice A m cap) X ∧ Bel w1 w) :
    ∃ g y, A = some ⟨g, 0, none⟩ ∧ w.cell? ⟨g, k, none⟩ = some (.int .i32 y) ∧ w.frozen? ⟨g, k, none⟩ = false ∧
      ∀ x, ∃ X : List Int, X.length = m ∧ Own (w.setCell ⟨g, k, none⟩ (.int .i32 x)) w1.heap.size 21 .i32 (.slice A m cap) X ∧ Bel w1 (w.setCell ⟨g, k, none⟩ (.int .i32 x)) := by
  obtain ⟨X, hX, hown, hb⟩ := h
  obtain ⟨g, cap', he, _, hg, _, hrow, hset⟩ := own_row hown hX (by omega)
  simp only [Value.slice.injEq, true_and] at he
  obtain ⟨rfl, rfl⟩ := he
  have hx : X[k]? = some (X[k]'(by omega)) := by simp
  obtain ⟨h1, h2⟩ := hrow k _ hx
  exact ⟨g, _, rfl, h1, h2, fun x => ⟨X.set k x, by simpa using hX, hset k x hk, Below.setCell hb (by exact hg) _⟩⟩

set_option maxRecDepth 1000000 in
set_option maxHeartbeats 4000000 in
theorem walk_keeps (A : Option Addr) (n c : Nat) (l : List Int) (w : World) (hS : Sp w) (h : Came .i32 w A n c l) :
    Calls Tryd.prog 5 #[.slice A n c] w (BoolIs w true) := by
  obtain ⟨hl, hc, hrd, hnil, _⟩ := h
  by_cases hn : 100 < n
  · have H := Lib.hid (answers_is w hS)
    have q : (100 : Int) < (n : Int) := by omega
    clear hl hrd hnil hS
    go_enter Tryd.func5, Tryd.ntmps5
    go_wp2_with fail
    with_reducible refine H.out.mono ?_
    rintro e w1 ⟨rfl, h1⟩
    go_wp2
    go_ret
    exact ⟨rfl, h1⟩
  · have q : ¬ (100 : Int) < (n : Int) := by omega
    obtain ⟨i0, hi0, hz0, hz1, hz2⟩ := info_parts info21
    obtain ⟨d, hO⟩ := ord_ex (apL l)
    obtain ⟨k, hk⟩ : ∃ k, d.length = k := ⟨_, rfl⟩
    obtain ⟨L, hL⟩ : ∃ L, nfc d = L := ⟨_, rfl⟩
    obtain ⟨m, hm⟩ : ∃ m, L.length = m := ⟨_, rfl⟩
    have hk6 : k ≤ 300 := by
      have h1 := hO.1.length
      have h2 := apL_max l
      omega
    have hmk : m ≤ k := by
      have h1 := nfc_len d
      rw [hL, hm] at h1
      omega
    have HA : Hid (∀ w', Bel w w' → Calls Tryd.prog 6 #[] w' (BoolIs w' true)) := Lib.hid fun w' h => answers_is w' (hS.by h)
    have HC : Hid (∀ w' B1 A1 c1, Bel w w' → Rd w' B1 .i32 A1 l → Calls Tryd.prog 7 #[.slice A1 n c1] w' (OwnIs w' L m)) := Lib.hid fun w' B1 A1 c1 h h1 => nfc_as A1 n c1 _ l d L m w' h1 hl (by omega) (hS.by h) hO hL hm
    have HD : Hid (∀ w' B1 A1 c1, Bel w w' → Rd w' B1 .i32 A1 l → Calls Tryd.prog 8 #[.slice A1 n c1] w' (OwnIs w' d k)) := Lib.hid fun w' B1 A1 c1 h h1 => nfd_as A1 n c1 _ l d k w' h1 hl (by omega) (hS.by h) hO hk
    have HE : Hid (∀ w' B1 A1 c1, Bel w w' → Rd w' B1 .i32 A1 l → Calls Tryd.prog 9 #[.slice A1 n c1, .slice A n c] w' (BoolIs w' true)) := Lib.hid fun w' B1 A1 c1 h h1 => runes_b A1 A n n c1 c l l _ _ true w' h1 (hrd.bel h) hl hl (by omega) (by simp)
    have HS1 : Hid (∀ w' B1 A1 c1, Bel w w' → Rd w' B1 .i32 A1 l → Calls Tryd.prog 11 #[.slice A1 n c1, .slice A n c] w' (BoolIs w' true)) := Lib.hid fun w' B1 A1 c1 h h1 => same_is A1 A n n c1 c _ _ l l d d true w' h1 hl (by omega) (hrd.bel h) hl (by omega) (hS.by h) hO hO (by simp)
    have HLL := Lib.hid hl
    have HM := Lib.hid hm
    have HK := Lib.hid hk
    have HR := Lib.hid hrd
    have HNIL := Lib.hid hnil
    clear hl hrd hnil hS hO hk hL hm
    go_enter Tryd.func5, Tryd.ntmps5
    go_wp2_with (first
      | (at_builtin; refine wpl_append (by rfl) (.tmp 12) (.tmp 13) 22 rfl Tryd.underlying22 hi0 hz0 hz1 hz2 rfl (by omega) (Own.empty_at (w := w) 21 .i32 rfl) rfl (HR.out.alloc (.cells #[] 21)) rfl HLL.out HNIL.out (by simp; omega) (by simp) ?_; intro v1 w1 hown1 hb1; rw [List.nil_append] at hown1; obtain ⟨A1, cap1, rfl, hcap1, hrd1, hnil1⟩ := hown1.rdn HLL.out)
      | fail)
    have B1 := Lib.hid (show Bel w w1 from Below.trans ((Bel.refl w).alloc _) hb1)
    have R1 := Lib.hid hrd1
    clear hb1 hrd1 hown1 hnil1 HR HNIL
    have H2 := Lib.hid (HC.out w1 _ A1 cap1 B1.out R1.out)
    with_reducible refine H2.out.mono ?_
    rintro e w2 ⟨A2, cap2, rfl, _, _, _, O2, h2⟩
    have HX : Hid (∃ X : List Int, X.length = m ∧ Own w2 w1.heap.size 21 .i32 (.slice A2 m cap2) X ∧ Bel w1 w2) := Lib.hid ⟨L, HM.out, O2.out, h2⟩
    clear H2 O2 h2
    go_wp2
    go_loopw [5] (fun i wr => QLoop w1 A2 m cap2 i wr) (fun i _ => m + 1 - (intOf i).toNat)
    case atStart => exact ⟨0, rfl, by omega, HX⟩
    case round =>
      clear HX
      obtain ⟨j, rfl, hj, HX⟩ := hrel
      by_cases hlt : j < m
      · obtain ⟨g, y, rfl, c2, f2, hnext⟩ := qloop_at hlt HX.out
        have HN : Hid (QLoop w1 (some ⟨g, 0, none⟩) m cap2 (.int .i64 ((j : Int) + 1)) (wr.setCell ⟨g, j, none⟩ (.int .i32 113))) := Lib.hid ⟨j + 1, by go_num, by omega, Lib.hid (hnext 113)⟩
        have q0 : (0 : Int) ≤ (j : Int) := by omega
        have q1 : (j : Int) < (m : Int) := by omega
        clear hnext HX
        go_wp2
        go_roundw
        case rel => exact HN.out
        case measure => simp [intOf]; omega
      · have q1 : ¬ (j : Int) < (m : Int) := by omega
        have B2 : Hid (Bel w wr) := Lib.hid (by obtain ⟨_, _, _, hb⟩ := HX.out; exact B1.out.trans hb)
        have R2 : Hid (Rd wr w1.heap.size .i32 A1 l) := Lib.hid (by obtain ⟨_, _, _, hb⟩ := HX.out; exact R1.out.bel hb)
        have H3 := Lib.hid (HD.out wr _ A1 cap1 B2.out R2.out)
        clear HX
        go_wp2_with fail
        with_reducible refine H3.out.mono ?_
        rintro e w3 ⟨A3, cap3, rfl, _, _, _, O3, h3⟩
        have HX : Hid (∃ X : List Int, X.length = k ∧ Own w3 wr.heap.size 21 .i32 (.slice A3 k cap3) X ∧ Bel wr w3) := Lib.hid ⟨d, HK.out, O3.out, h3⟩
        clear H3 O3 h3
        go_wp2
        generalize wr = w4 at HX B2 R2 ⊢
        go_loopw [7] (fun i wr => QLoop w4 A3 k cap3 i wr) (fun i _ => k + 1 - (intOf i).toNat)
        case atStart => exact ⟨0, rfl, by omega, HX⟩
        case round =>
          clear HX
          obtain ⟨j', rfl, hj', HX⟩ := hrel
          by_cases hlt' : j' < k
          · obtain ⟨g, y, rfl, c2, f2, hnext⟩ := qloop_at hlt' HX.out
            have HN : Hid (QLoop w4 (some ⟨g, 0, none⟩) k cap3 (.int .i64 ((j' : Int) + 1)) (wr.setCell ⟨g, j', none⟩ (.int .i32 113))) := Lib.hid ⟨j' + 1, by go_num, by omega, Lib.hid (hnext 113)⟩
            have q0 : (0 : Int) ≤ (j' : Int) := by omega
            have q1' : (j' : Int) < (k : Int) := by omega
            clear hnext HX
            go_wp2
            go_roundw
            case rel => exact HN.out
            case measure => simp [intOf]; omega
          · have q1' : ¬ (j' : Int) < (k : Int) := by omega
            have B5 : Hid (Bel w wr) := Lib.hid (by obtain ⟨_, _, _, hb⟩ := HX.out; exact B2.out.trans hb)
            have R5 : Hid (Rd wr w1.heap.size .i32 A1 l) := Lib.hid (by obtain ⟨_, _, _, hb⟩ := HX.out; exact R2.out.bel hb)
            have H5 := Lib.hid (HA.out wr B5.out)
            clear HX
            go_wp2_with fail
            with_reducible refine H5.out.mono ?_
            rintro e w6 ⟨rfl, h6⟩
            have B6 := Lib.hid (B5.out.trans h6)
            have R6 := Lib.hid (R5.out.bel h6)
            have H6 := Lib.hid (HE.out w6 _ A1 cap1 B6.out R6.out)
            clear H5 h6
            go_wp2_with fail
            with_reducible refine H6.out.mono ?_
            rintro e w7 ⟨rfl, h7⟩
            have B7 := Lib.hid (B6.out.trans h7)
            have R7 := Lib.hid (R6.out.bel h7)
            have H7 := Lib.hid (HS1.out w7 _ A1 cap1 B7.out R7.out)
            clear H6 h7
            go_wp2_with fail
            with_reducible refine H7.out.mono ?_
            rintro e w8 ⟨rfl, h8⟩
            have B8 := Lib.hid (B7.out.trans h8)
            clear H7 h8
            go_wp2
            go_ret
            exact ⟨rfl, B8.out⟩
end Go.Proofs.YtfgpgmfajjakpaaDoor.U
