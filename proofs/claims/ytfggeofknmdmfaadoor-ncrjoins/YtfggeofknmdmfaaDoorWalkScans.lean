/- NcrScans answers true at every list; nothing that was there is changed. The library's table of trailing zeros must hold what it holds. -/
import Derived.Test.YtfggeofknmdmfaaDoorWalkPrints
namespace Go.Proofs.YtfggeofknmdmfaaDoor.U
open Go.RowKit
set_option linter.unusedVariables false

def ExpIs (w : World) (o : List Int) (n : Nat) (e : Ending) (w' : World) : Prop := ∃ A cap, e = .returned (.slice A n cap) ∧ n ≤ cap ∧ Own w' w.heap.size 21 .i32 (.slice A n cap) o ∧ Rd w' w'.heap.size .i32 A o ∧ (A = none → cap = 0) ∧ Bel w w'
theorem expand_is (A : Option Addr) (n c : Nat) (l o : List Int) (m : Nat) (w : World) {B : Nat} (h : Rd w B .i32 A l) (hn : l.length = n) (hcap : n ≤ c) (hbig : n ≤ 10000) (ho : Exp l o) (hm : o.length = m) :
    Calls Tryd.prog 15 #[.slice A n c] w (ExpIs w o m) := by
  refine (expand_any A n c l B w h hn hcap hbig).mono ?_
  rintro e w' ⟨v, o', rfl, hE, hown, hb⟩
  obtain rfl := exp_one hE ho
  obtain ⟨A', cap, rfl, h1, h2, h3⟩ := hown.rdn hm
  exact ⟨A', cap, rfl, h1, hown, h2, h3, hb⟩
theorem rexpand_is (A : Option Addr) (n c : Nat) (l o : List Int) (m : Nat) (w : World) {B : Nat} (h : Rd w B .i32 A l) (hn : l.length = n) (hcap : n ≤ c) (hbig : n ≤ 10000) (ho : Exp l o) (hm : o.length = m) :
    Calls Tryd.prog 19 #[.slice A n c] w (ExpIs w o m) := by
  refine (rexpand_any A n c l B w h hn hcap hbig).mono ?_
  rintro e w' ⟨v, o', rfl, hE, hown, hb⟩
  obtain rfl := exp_one hE ho
  obtain ⟨A', cap, rfl, h1, h2, h3⟩ := hown.rdn hm
  exact ⟨A', cap, rfl, h1, hown, h2, h3, hb⟩
theorem has_ex (l : List Int) : ∃ b, HasIs l b := by
  by_cases h : ∀ i, NoRef (l.drop i)
  · exact ⟨false, .inl ⟨rfl, h⟩⟩
  · refine ⟨true, .inr ⟨rfl, ?_⟩⟩
    refine Classical.byContradiction fun hn => h fun i r t hr e => hn ⟨i, r, t, hr, e⟩
def BoolIs (w : World) (b : Bool) (e : Ending) (w' : World) : Prop := e = .returned (.bool b) ∧ Bel w w'
theorem has_is (A : Option Addr) (n c : Nat) (l : List Int) (b : Bool) (w : World) {B : Nat} (h : Rd w B .i32 A l) (hn : l.length = n) (hcap : n ≤ c) (hbig : n ≤ 1000000) (hb : HasIs l b) :
    Calls Tryd.prog 16 #[.slice A n c] w (BoolIs w b) := by
  refine (has_any A n c l B w h hn hcap hbig).mono ?_
  rintro e w' ⟨b', rfl, hH, hbel⟩
  obtain rfl := has_one hH hb
  exact ⟨rfl, hbel⟩
theorem rhas_is (A : Option Addr) (n c : Nat) (l : List Int) (b : Bool) (w : World) {B : Nat} (h : Rd w B .i32 A l) (hn : l.length = n) (hcap : n ≤ c) (hbig : n ≤ 1000000) (hb : HasIs l b) :
    Calls Tryd.prog 17 #[.slice A n c] w (BoolIs w b) := by
  refine (rhas_any A n c l B w h hn hcap hbig).mono ?_
  rintro e w' ⟨b', rfl, hH, hbel⟩
  obtain rfl := has_one hH hb
  exact ⟨rfl, hbel⟩
theorem rscan_is (A : Option Addr) (n c : Nat) (l : List Int) (v : Int) (k : Nat) (w : World) {B : Nat} (h : Rd w B .i32 A l) (hn : l.length = n) (hcap : n ≤ c) (hbig : n ≤ 1000000) (hs : Scans l v k) :
    Calls Tryd.prog 14 #[.slice A n c] w (ScanIs w v k) := by
  refine (rscan_any A n c l B w h hn hcap hbig).mono ?_
  rintro e w' ⟨v', k', rfl, hS, hb⟩
  obtain ⟨rfl, rfl⟩ := scans_one hS hs
  exact ⟨rfl, hb⟩

set_option maxRecDepth 100000 in
set_option maxHeartbeats 2000000 in
theorem walk_scans (A : Option Addr) (n cap : Nat) (l : List Int) (w : World) (hT : Tz w) (h : Came .i32 w A n cap l) :
    Calls Tryd.prog 4 #[.slice A n cap] w fun e w' => e = .returned (.bool true) ∧ Bel w w' := by
  obtain ⟨i0, hi0, hz0, hz1, hz2⟩ := info_parts info21
  obtain ⟨hl, hc, hrd, hnil, _⟩ := h
  have HT := Lib.hid hT
  have HL := Lib.hid hl
  have HR := Lib.hid hrd
  have HN := Lib.hid hnil
  clear hT hl hrd hnil
  by_cases hbig : 500 < n
  · go_enter Tryd.func4, Tryd.ntmps4
    go_wp2_with (go_at_call 8; (with_reducible refine (answers_any _ HT.out).mono ?_); rintro e w4 ⟨rfl, hb4⟩)
    go_ret
    exact ⟨rfl, hb4⟩
  · obtain ⟨o, ho⟩ := exp_ex l
    obtain ⟨b, hb⟩ := has_ex l
    obtain ⟨m, hm⟩ : ∃ m, o.length = m := ⟨_, rfl⟩
    have hml := exp_length ho
    rw [hm, HL.out] at hml
    have HO := Lib.hid ho
    have HB := Lib.hid hb
    have HM := Lib.hid hm
    clear ho hb hm
    go_enter Tryd.func4, Tryd.ntmps4
    go_wp2_with fail
    refine (scan_any A n cap l _ w HR.out HL.out hc (by omega)).mono ?_
    rintro e w1 ⟨v, k, rfl, hS, hb1⟩
    have HS := Lib.hid hS
    clear hS
    go_wp2_with fail
    refine (rscan_is A n cap l v k w1 (HR.out.bel hb1) HL.out hc (by omega) HS.out).mono ?_
    rintro e w2 ⟨rfl, hb2⟩
    have hbw2 := hb1.trans hb2
    have HR2 := Lib.hid ((HR.out.bel hbw2).alloc (.cells #[] 21))
    have HO2 := Lib.hid (Own.empty w2 21 .i32)
    go_wp2_with (first
      | (at_builtin; refine wpl_append (by rfl) (.tmp 23) (.tmp 24) 22 rfl Tryd.underlying22 hi0 hz0 hz1 hz2 rfl (by omega) HO2.out rfl HR2.out rfl HL.out HN.out (by simp; omega) (by simp) ?_; intro v3 w3 hown3 hb3)
      | fail)
    have hbw3 : Bel w2 w3 := Below.trans ((Bel.refl w2).alloc _) hb3
    obtain ⟨A3, cap3, rfl, hcap3, hrd3, hnil3⟩ := hown3.rdn (n := n) (by simpa using HL.out)
    rw [List.nil_append] at hrd3
    have HR3 := Lib.hid hrd3
    clear hown3 hb3 hnil3 hrd3
    refine (expand_is A3 n cap3 l o m w3 HR3.out HL.out hcap3 (by omega) HO.out HM.out).mono ?_
    rintro e w4 ⟨A4, cap4, rfl, hcap4, hown4, hrd4, hnil4, hb4⟩
    have HR4 := Lib.hid hrd4
    have hbw4 := (hbw2.trans hbw3).trans hb4
    clear hown4 hrd4 hnil4
    go_wp2_with fail
    refine (answers_any w4 (HT.out.bel hbw4)).mono ?_
    rintro e w5 ⟨rfl, hb5⟩
    have hbw5 := hbw4.trans hb5
    have hvv : (v == v) = true := by simp
    have hkk : ((k : Int) == (k : Int)) = true := by simp
    go_wp2_with fail
    refine (has_is A n cap l b w5 (HR.out.bel hbw5) HL.out hc (by omega) HB.out).mono ?_
    rintro e w6 ⟨rfl, hb6⟩
    have hbw6 := hbw5.trans hb6
    go_wp2_with fail
    refine (rhas_is A n cap l b w6 (HR.out.bel hbw6) HL.out hc (by omega) HB.out).mono ?_
    rintro e w7 ⟨rfl, hb7⟩
    have hbw7 := hbw6.trans hb7
    have hbb : (b == b) = true := by simp
    go_wp2_with fail
    refine (rexpand_is A n cap l o m w7 (HR.out.bel hbw7) HL.out hc (by omega) HO.out HM.out).mono ?_
    rintro e w8 ⟨A8, cap8, rfl, hcap8, hown8, hrd8, hnil8, hb8⟩
    have hbw8 := hbw7.trans hb8
    have hb48 := ((hb5.trans hb6).trans hb7).trans hb8
    have HR8 := Lib.hid hrd8
    clear hown8 hrd8 hnil8
    go_wp2_with fail
    refine (runes_is A4 A8 m m cap4 cap8 o o _ _ true w8 (HR4.out.bel hb48) HR8.out HM.out HM.out (by omega) (by simp)).mono ?_
    rintro e w9 ⟨rfl, q, rfl⟩
    have hbw9 : Bel w (w8.drewN q) := hbw8.drewN q
    have hr3 : Rd (w8.drewN q) w3.heap.size .i32 A3 l := (HR3.out.bel hb4).bel (hb48.drewN q)
    have hr0 : Rd (w8.drewN q) w.heap.size .i32 A l := HR.out.bel hbw9
    have H3 := Lib.hid hr3
    have H0 := Lib.hid hr0
    clear hr3 hr0
    generalize w8.drewN q = W9 at hbw9 H3 H0 ⊢
    go_wp2_with fail
    refine (runes_is A3 A n n cap3 cap l l _ _ true W9 H3.out H0.out HL.out HL.out (by omega) (by simp)).mono ?_
    rintro e w10 ⟨rfl, q2, rfl⟩
    go_wp2
    go_ret
    exact ⟨rfl, hbw9.drewN q2⟩
end Go.Proofs.YtfggeofknmdmfaaDoor.U
