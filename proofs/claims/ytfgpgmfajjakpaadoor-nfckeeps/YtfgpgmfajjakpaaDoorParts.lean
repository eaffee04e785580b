/- What hangul.Split and the table's parts answer: a list of its own, of what a character is split into, once. -/
import Derived.Test.YtfgpgmfajjakpaaDoorPairs
import Derived.Test.YtfgpgmfajjakpaaDoorHang
namespace Go.Proofs.YtfgpgmfajjakpaaDoor.U
open Go.RowKit
set_option linter.unusedVariables false

/-- A list of its own. -/
def GivesO (w : World) (l : List Int) (n : Nat) (e : Ending) (w' : World) : Prop := ∃ v, e = .returned v ∧ l.length = n ∧ Own w' w.heap.size 21 .i32 v l ∧ Bel w w'
theorem giveso_of {w w' : World} {l : List Int} {n : Nat} {v : Value} (hn : l.length = n) (h : Own w' w.heap.size 21 .i32 v l) (hb : Bel w w') : GivesO w l n (.returned v) w' := ⟨v, rfl, hn, h, hb⟩
theorem split_two_o (r a b : Int) (w : World) (h0 : 44032 ≤ r) (h1 : r < 55204) (h : (r - 44032) % 28 = 0) (ha : 4352 + (r - 44032) / 588 = a) (hb : 4449 + (r - 44032) % 588 / 28 = b) :
    Calls Tryd.prog 32 #[.int .i32 r] w (GivesO w [a, b] 2) := by
  have H := Lib.hid (decide_eq_true (p := 44032 ≤ r ∧ r < 55204) ⟨h0, h1⟩)
  have ht : ¬ 0 < (r - 44032) % 28 := by omega
  have HA := Lib.hid ha
  have HB := Lib.hid hb
  clear h ha hb
  go_enter Tryd.func32, Tryd.ntmps32
  go_wp2_with (go_at_call 51; (with_reducible refine (syl_is _ true _ H.out).mono ?_); rintro e w' ⟨rfl, rfl⟩)
  go_ret
  rw [HA.out, HB.out]
  exact giveso_of rfl (Own.lit w 21 .i32 rfl rfl (by omega)) ((Bel.refl w).alloc _)

set_option maxHeartbeats 1000000 in
theorem split_three_o (r a b c : Int) (w : World) (h0 : 44032 ≤ r) (h1 : r < 55204) (h : 0 < (r - 44032) % 28) (ha : 4352 + (r - 44032) / 588 = a) (hb : 4449 + (r - 44032) % 588 / 28 = b) (hc : 4519 + (r - 44032) % 28 = c) :
    Calls Tryd.prog 32 #[.int .i32 r] w (GivesO w [a, b, c] 3) := by
  obtain ⟨i0, hi0, hz0, hz1, hz2⟩ := info_parts info21
  have H := Lib.hid (decide_eq_true (p := 44032 ≤ r ∧ r < 55204) ⟨h0, h1⟩)
  have HA := Lib.hid ha
  have HB := Lib.hid hb
  have HC := Lib.hid hc
  have HR := Lib.hid (rd_lit_at (w := w.alloc (.cells #[.int .i32 (4352 + (r - 44032) / 588), .int .i32 (4449 + (r - 44032) % 588 / 28)] 21)) (cs := #[.int .i32 (4519 + (r - 44032) % 28)]) (t := 21) (k := .i32) (l := [c]) (n := w.heap.size + 1) (by simp) (by simp [hc]))
  have HO := Lib.hid ((Own.lit w 21 .i32 (cs := #[.int .i32 (4352 + (r - 44032) / 588), .int .i32 (4449 + (r - 44032) % 588 / 28)]) (l := [a, b]) (n := 2) (by simp [ha, hb]) rfl (by omega)).keep ((Bel.refl _).alloc (.cells #[.int .i32 (4519 + (r - 44032) % 28)] 21)))
  clear ha hb hc
  go_enter Tryd.func32, Tryd.ntmps32
  go_wp2_with (first
    | (go_at_call 51; (with_reducible refine (syl_is _ true _ H.out).mono ?_); rintro e w' ⟨rfl, rfl⟩)
    | (at_builtin; refine wpl_append (by rfl) (.tmp 23) (.tmp 26) 22 rfl Tryd.underlying22 hi0 hz0 hz1 hz2 rfl (by omega) HO.out rfl HR.out rfl rfl (fun e => by cases e) (by simp) (by simp; omega) ?_; intro v2 w2 hown2 hb2)
    | fail)
  go_ret
  exact giveso_of rfl hown2 (Below.trans (((Bel.refl w).alloc _).alloc _) hb2)
/-- What Split gives, and what Parts gives: the same list, at every character. -/
theorem split_gives_o (r : Int) (n : Nat) (w : World) (h : (parts r).length = n) : Calls Tryd.prog 32 #[.int .i32 r] w (GivesO w (parts r) n) := by
  by_cases h0 : 44032 ≤ r ∧ r < 55204
  · obtain ⟨h0, h1⟩ := h0
    by_cases ht : (r - 44032) % 28 = 0
    · rw [parts_two h0 h1 ht] at h ⊢
      subst h
      exact split_two_o r _ _ w h0 h1 ht rfl rfl
    · rw [parts_three h0 h1 (by omega)] at h ⊢
      subst h
      exact split_three_o r _ _ _ w h0 h1 (by omega) rfl rfl rfl
  · rw [parts_no (by omega)] at h ⊢
    subst h
    refine (split_no r w (by omega)).mono ?_
    rintro e w' ⟨rfl, rfl⟩
    exact giveso_of rfl (Own.nil _ _ _ _) (Bel.refl _)

set_option maxHeartbeats 1000000 in
theorem parts_one (c a : Int) (w : World) (h : Spl c a 0 1) : Calls Tryd.prog 24 #[.agg #[], .int .i32 c] w (GivesO w [a] 1) := by
  have H := Lib.hid (fun w => split_is c a 0 1 w h)
  clear h
  go_enter Tryd.func24, Tryd.ntmps24
  go_wp2_with fail
  with_reducible refine (H.out _).mono ?_
  rintro e w1 ⟨rfl, h1⟩
  go_wp2
  go_ret
  have hb : Bel w w1 := ((Bel.refl w).alloc _).trans h1
  exact giveso_of rfl ((Own.lit w1 21 .i32 rfl rfl (by simp)).less hb.size) (hb.alloc _)
set_option maxHeartbeats 1000000 in
theorem parts_pair (c a b : Int) (w : World) (h : Spl c a b 2) : Calls Tryd.prog 24 #[.agg #[], .int .i32 c] w (GivesO w [a, b] 2) := by
  have H := Lib.hid (fun w => split_is c a b 2 w h)
  clear h
  go_enter Tryd.func24, Tryd.ntmps24
  go_wp2_with fail
  with_reducible refine (H.out _).mono ?_
  rintro e w1 ⟨rfl, h1⟩
  go_wp2
  go_ret
  have hb : Bel w w1 := ((Bel.refl w).alloc _).trans h1
  exact giveso_of rfl ((Own.lit w1 21 .i32 rfl rfl (by simp)).less hb.size) (hb.alloc _)
set_option maxHeartbeats 1000000 in
theorem parts_syl (c : Int) (n : Nat) (w : World) (h : Spl c 0 0 0) (hn : (parts c).length = n) : Calls Tryd.prog 24 #[.agg #[], .int .i32 c] w (GivesO w (parts c) n) := by
  have H := Lib.hid (fun w => split_is c 0 0 0 w h)
  have H2 := Lib.hid (fun w => split_gives_o c n w hn)
  clear h hn
  generalize parts c = l at H2 ⊢
  go_enter Tryd.func24, Tryd.ntmps24
  go_wp2_with fail
  with_reducible refine (H.out _).mono ?_
  rintro e w1 ⟨rfl, h1⟩
  have hb : Bel w w1 := ((Bel.refl w).alloc _).trans h1
  go_wp2_with fail
  with_reducible refine (H2.out _).mono ?_
  rintro e w2 ⟨v, rfl, hl, hown, h2⟩
  go_wp2
  go_ret
  exact giveso_of hl (hown.less hb.size) (hb.trans h2)
theorem parts_give (c : Int) (n : Nat) (w : World) (h : (pts c).length = n) : Calls Tryd.prog 24 #[.agg #[], .int .i32 c] w (GivesO w (pts c) n) := by
  obtain ⟨a, b, k, hs⟩ := spl_any c
  rcases spl_n hs with ⟨rfl, hb⟩ | ⟨rfl, rfl⟩ | ⟨rfl, rfl, rfl⟩
  · rcases spl_pts hs with ⟨h1, _⟩ | ⟨_, h1⟩ | ⟨h1, _⟩
    · omega
    · rw [h1] at h ⊢; subst h; exact parts_pair c a b w hs
    · omega
  · rcases spl_pts hs with ⟨_, h1⟩ | ⟨h1, _⟩ | ⟨h1, _⟩
    · rw [h1] at h ⊢; subst h; exact parts_one c a w hs
    · omega
    · omega
  · rcases spl_pts hs with ⟨h1, _⟩ | ⟨h1, _⟩ | ⟨_, h1⟩
    · omega
    · omega
    · rw [h1] at h ⊢; exact parts_syl c n w hs h
end Go.Proofs.YtfgpgmfajjakpaaDoor.U
