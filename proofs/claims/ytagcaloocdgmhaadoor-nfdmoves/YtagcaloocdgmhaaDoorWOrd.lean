/- NfdOrder answers true at any list; nothing that was there is changed. -/
import Derived.Test.YtagcaloocdgmhaaDoorNfd
import Derived.BigQuiet
namespace Go.Proofs.YtagcaloocdgmhaaDoor.U
open Go.RowKit
set_option linter.unusedVariables false

theorem Rd.cells {w : World} {B g off : Nat} {l : List Int} (h : Rd w B .i32 (some ⟨g, off, none⟩) l) {i : Nat} {x : Int} (hx : l[i]? = some x) (n : Nat) (os : Array Obj) : (Sort.grow (w.drewN n) os).cell? ⟨g, off + i, none⟩ = some (.int .i32 x) :=
  (h.bel (Gr.bel ⟨n, os, rfl⟩)).at hx
theorem fit_of {w : World} {A : Option Addr} {n c : Nat} {l : List Int} (h : Came .i32 w A n c l) : Fit l := fun x hx => by
  have := bounds_i32 (h.2.2.2.2 x hx)
  omega
theorem Fit.st {a b : List Int} (h : Fit a) (s : St a b) : Fit b := fun x hx => h x (s.mem.1 hx)

def OLoop (w : World) (m : Nat) (i : Value) (w' : World) : Prop := ∃ k : Nat, i = .int .i64 k ∧ k ≤ m + 1 ∧ Bel w w'

set_option maxRecDepth 1000000 in
set_option maxHeartbeats 800000 in
theorem walk_order (A : Option Addr) (n c : Nat) (l : List Int) (w : World) (hS : Sp w) (h : Came .i32 w A n c l) :
    Calls Tryd.prog 3 #[.slice A n c] w (BoolIs w true) := by
  obtain ⟨i0, hi0, hz0, hz1, hz2⟩ := info_parts info21
  have hmix := mixed
  have HF := Lib.hid (fit_of h)
  obtain ⟨hl, hc, hrd, hnil, _⟩ := h
  have HS := Lib.hid hS
  have HL := Lib.hid hl
  have HR := Lib.hid hrd
  have HR0 := Lib.hid (hrd.alloc (.cells #[] 21))
  have HNIL := Lib.hid hnil
  have HO := Lib.hid (Own.empty_at (w := w) 21 .i32 rfl)
  by_cases hn : 200 < n
  · have H := Lib.hid (answers_is w hS)
    have q : (200 : Int) < (n : Int) := by omega
    clear hl hrd hnil hS
    go_enter Tryd.func3, Tryd.ntmps3
    go_wp2_with fail
    with_reducible refine H.out.mono ?_
    rintro e w1 ⟨rfl, h1⟩
    go_wp2
    go_ret
    exact ⟨rfl, h1⟩
  · have q : ¬ (200 : Int) < (n : Int) := by omega
    clear hl hrd hnil hS
    go_enter Tryd.func3, Tryd.ntmps3
    go_wp2_with (first | (at_builtin; refine wpl_append (by rfl) (.tmp 9) (.tmp 10) 22 rfl Tryd.underlying22 hi0 hz0 hz1 hz2 rfl (by omega) HO.out rfl HR0.out rfl HL.out HNIL.out (by simp; omega) (by simp) ?_; intro v w1 hown hb1; rw [List.nil_append] at hown; obtain ⟨A1, cap1, rfl, hcap1, hrd1, hnil1⟩ := hown.rdn HL.out) | fail)
    have hbw1 : Bel w w1 := Below.trans ((Bel.refl w).alloc _) hb1
    have HC := Lib.hid (order_is A1 n cap1 _ l w1 hrd1 HL.out hnil1 (by omega) (HS.out.by hbw1))
    clear hown hb1 hrd1 hnil1 HO HR0
    with_reducible refine HC.out.mono ?_
    rintro e w2 ⟨v2, L, rfl, hord, hown2, hb2⟩
    have hL : L.length = n := by rw [hord.1.length]; exact HL.out
    obtain ⟨A2, cap2, rfl, hcap2, hrd2, hnil2⟩ := hown2.rdn hL
    have hbw2 := hbw1.trans hb2
    have HORD := Lib.hid hord
    have HLL := Lib.hid hL
    have HR2 := Lib.hid hrd2
    have HNIL2 := Lib.hid hnil2
    clear HC hown2 hb2 hrd2 hnil2 hord hL hbw1
    have H1 := Lib.hid (answers_is w2 (HS.out.by hbw2))
    go_wp2_with fail
    with_reducible refine H1.out.mono ?_
    rintro e w3 ⟨rfl, h3⟩
    have hbw3 := hbw2.trans h3
    have H2 : Hid (Calls Tryd.prog 10 #[.slice A n c] w3 (OwnIs w3 L n)) := Lib.hid ((rorder_is A n c _ l w3 (HR.out.bel hbw3) HL.out HNIL.out (by omega) (HS.out.by hbw3) HF.out).mono fun e w' h => h.is HORD.out HLL.out)
    have HR3 := Lib.hid (HR2.out.bel h3)
    clear H1 h3
    go_wp2_with fail
    with_reducible refine H2.out.mono ?_
    rintro e w4 ⟨A4, cap4, rfl, _, _, HR4, _, h4⟩
    have hbw4 := hbw3.trans h4
    have HX4 := Lib.hid (HR3.out.bel h4)
    have H3 := Lib.hid (runes_is A2 A4 n n cap2 cap4 L L _ _ true w4 HX4.out HR4.out HLL.out HLL.out (by omega) (by simp))
    clear H2 h4
    go_wp2_with fail
    with_reducible refine H3.out.mono ?_
    rintro e w5 ⟨rfl, q5, rfl⟩
    have hbw5 := hbw4.drewN q5
    have HX5 : Hid (Rd (w4.drewN q5) w2.heap.size .i32 A2 L) := Lib.hid HX4.out
    have H4 : Hid (Calls Tryd.prog 8 #[.slice A2 n cap2] (w4.drewN q5) (OwnIs (w4.drewN q5) L n)) := Lib.hid ((order_is A2 n cap2 _ L _ HX5.out HLL.out HNIL2.out (by omega) (HS.out.by hbw5)).mono fun e w' h => h.is (ord_self HORD.out.2) HLL.out)
    clear H3 HR4 HX4
    generalize w4.drewN q5 = w6 at hbw5 HX5 H4 ⊢
    go_wp2_with fail
    with_reducible refine H4.out.mono ?_
    rintro e w7 ⟨A7, cap7, rfl, _, _, HR7, _, h7⟩
    have hbw7 := hbw5.trans h7
    have HX7 := Lib.hid (HX5.out.bel h7)
    have H5 := Lib.hid (runes_is A7 A2 n n cap7 cap2 L L _ _ true w7 HR7.out HX7.out HLL.out HLL.out (by omega) (by simp))
    clear H4 h7 HX5
    go_wp2_with fail
    with_reducible refine H5.out.mono ?_
    rintro e w8 ⟨rfl, q8, rfl⟩
    have HX8 : Hid (Rd (w7.drewN q8) w2.heap.size .i32 A2 L) := Lib.hid HX7.out
    have hbw8 := hbw7.drewN q8
    clear H5 HR7 HX7 hbw5 hbw4 hbw3 hbw2 HR HR2 HR3 HNIL HNIL2
    generalize w7.drewN q8 = w9 at hbw8 HX8 ⊢
    go_wp2
    go_loopw [4] (fun i wr => OLoop w9 n i wr) (fun i _ => n + 1 - (intOf i).toNat)
    case atStart => exact ⟨0, rfl, by omega, Bel.refl _⟩
    case round =>
      obtain ⟨k, rfl, hk, hbk⟩ := hrel
      by_cases hlt : k + 1 < n
      · obtain ⟨k1, hk1⟩ : ∃ k1, k + 1 = k1 := ⟨_, rfl⟩
        obtain ⟨x, hx⟩ : ∃ x, L[k]? = some x := ⟨L[k]'(by rw [HLL.out]; omega), by simp⟩
        obtain ⟨y, hy⟩ : ∃ y, L[k1]? = some y := ⟨L[k1]'(by rw [HLL.out]; omega), by simp⟩
        have hrk := HX8.out.bel hbk
        obtain ⟨g, off, rfl, _, _⟩ := hrk.isSome (by rw [HLL.out]; omega)
        have la := hrk.cells hx
        have lb := hrk.cells hy
        have fx := (HF.out.st HORD.out.1) x (List.mem_of_getElem? hx)
        have fy := (HF.out.st HORD.out.1) y (List.mem_of_getElem? hy)
        obtain ⟨cx, hcx⟩ : ∃ c, cls x = c := ⟨_, rfl⟩
        obtain ⟨cy, hcy⟩ : ∃ c, cls y = c := ⟨_, rfl⟩
        have ha := rclass_at x cx wr fx hcx
        have hb := rclass_at y cy wr fy hcy
        have hle : 0 < cy → cx ≤ cy := fun hp => by
          rw [← hcx, ← hcy] at *
          exact HORD.out.2 k x y hx (by rw [hk1]; exact hy) hp
        have HLE := Lib.hid hle
        have hnn := cls_nn y
        rw [hcy] at hnn
        have ea : ((k : Int) + 1).toNat = k1 := by omega
        have pa : (0 : Int) ≤ (k : Int) + 1 := by omega
        have ba : (k : Int) + 1 < (n : Int) := by omega
        have ra : IntKind.i64.wrap ((k : Int) + 1) = (k : Int) + 1 := by rw [IntKind.wrap_i64]; omega
        have pc : (0 : Int) ≤ (k : Int) := by omega
        have bc : (k : Int) < (n : Int) := by omega
        clear hx hy hrk fx fy hcx hcy hle hk1
        by_cases hp : 0 < cy
        · have hcc : ¬ cy < cx := by have := HLE.out hp; omega
          have hpd : decide (cy > 0) = true := decide_eq_true hp
          have hcd : decide (cx > cy) = false := decide_eq_false hcc
          go_wp2_with fail
          go_quiet_grown (first | (go_at_call_of 11 x; with_reducible refine Calls.grown_of (ha _ _)) | (go_at_call_of 11 y; with_reducible refine Calls.grown_of (hb _ _)))
          have hbn : Bel w9 (Sort.grow (wr.drewN nq) osq) := hbk.trans (Gr.bel ⟨nq, osq, rfl⟩)
          clear la lb ha hb hbk
          generalize Sort.grow (wr.drewN nq) osq = wn at hbn ⊢
          clear ea
          go_wp2
          go_roundw
          case rel => exact ⟨k + 1, by go_num, by omega, hbn⟩
          case measure => simp [intOf]; omega
        · obtain rfl : cy = 0 := by omega
          clear hp hnn HLE
          go_wp2_with fail
          refine wp_region_quiet_grown (by assumption) (by kernel_rfl) ?_
          repeat (go_big_quiet_step (first | (go_at_call_of 11 y; with_reducible refine Calls.grown_of (hb _ _)) | fail))
          refine wpQuiet_nil ?_
          intro _ hw'
          obtain ⟨⟨nq, osq⟩, hw''⟩ := hw'
          subst hw''
          have hbn : Bel w9 (Sort.grow (wr.drewN nq) osq) := hbk.trans (Gr.bel ⟨nq, osq, rfl⟩)
          clear la lb ha hb hbk
          generalize Sort.grow (wr.drewN nq) osq = wn at hbn ⊢
          clear ea
          go_wp2
          go_roundw
          case rel => exact ⟨k + 1, by go_num, by omega, hbn⟩
          case measure => simp [intOf]; omega
      · have q1 : ¬ (k : Int) + 1 < (n : Int) := by omega
        go_wp2
        go_ret
        exact ⟨rfl, hbw8.trans hbk⟩
end Go.Proofs.YtagcaloocdgmhaaDoor.U
