/- What the function that pairs.Join hands over answers of a line. -/
import Derived.Test.YtfgpgmfajjakpaaDoorSide
import Derived.Test.YtfgpgmfajjakpaaDoorTextJ
import Derived.Test.YtfgpgmfajjakpaaDoorFind
namespace Go.Proofs.YtfgpgmfajjakpaaDoor.U
open Go.RowKit
set_option linter.unusedVariables false
attribute [local go_sem ↓] Go.wp_at_zero Go.wp_at_succ

theorem or_is (g : Nat) (p q c : Int) (w : World) (h0 : w.cell? ⟨g, 0, none⟩ = some (.int .i64 p)) (h1 : w.cell? ⟨g, 1, none⟩ = some (.int .i64 q)) (hc : (if p = 0 then q else p) = c) :
    Calls Tryd.prog 40 #[.slice (some ⟨g, 0, none⟩) 2 2] w fun e w' => e = .returned (.int .i64 c) ∧ w = w' := by
  by_cases hp : p = 0
  · subst hp
    rw [if_pos rfl] at hc
    by_cases hq : q = 0
    · subst hq
      subst hc
      go_enter Tryd.func40, Tryd.ntmps40
      go_wp2
      refine wp_loop_rounds 4 ?_
      rw [rounds_succ]; go_wp2
      rw [rounds_succ]; go_wp2
      rw [rounds_succ]; go_wp2
      go_ret
      exact ⟨rfl, rfl⟩
    · subst hc
      have e : (q != 0) = true := by simpa using hq
      go_enter Tryd.func40, Tryd.ntmps40
      go_wp2
      refine wp_loop_rounds 4 ?_
      rw [rounds_succ]; go_wp2
      rw [rounds_succ]; go_wp2
      go_ret
      exact ⟨rfl, rfl⟩
  · rw [if_neg hp] at hc
    subst hc
    have e : (p != 0) = true := by simpa using hp
    go_enter Tryd.func40, Tryd.ntmps40
    go_wp2
    refine wp_loop_rounds 4 ?_
    rw [rounds_succ]; go_wp2
    go_ret
    exact ⟨rfl, rfl⟩

/-- What the region holds on to: both variables. -/
def Two (w : World) (b1 b2 : Nat) (x y : Int) (w' : World) : Prop := w'.cell? ⟨b1, 0, none⟩ = some (.int .i32 x) ∧ w'.cell? ⟨b2, 0, none⟩ = some (.int .i32 y) ∧ Bel w w'
theorem Two.bel {w w' w'' : World} {b1 b2 : Nat} {x y : Int} (h : Two w b1 b2 x y w') (hb : Bel w' w'') : Two w b1 b2 x y w'' := ⟨cell_bel h.1 hb, cell_bel h.2.1 hb, h.2.2.trans hb⟩

set_option maxHeartbeats 4000000 in
theorem sideJ_is (x y c : Int) (b1 b2 : Nat) (L : ByteArray) (t : Row3) (w : World) (h : Ln L t) (h16 : in16 t = true) (h1 : w.cell? ⟨b1, 0, none⟩ = some (.int .i32 x)) (h2 : w.cell? ⟨b2, 0, none⟩ = some (.int .i32 y)) (hc : (if sgn x t.2.1 = 0 then sgn y t.2.2 else sgn x t.2.1) = c) :
    Calls Tryd.prog 39 #[.string L, .pointer (some ⟨b1, 0, none⟩), .pointer (some ⟨b2, 0, none⟩)] w (IntIs w c) := by
  have HF := Lib.hid (fun w => first_is L t w h h16)
  have HS := Lib.hid (fun w => second_is L t w h h16)
  generalize t.2.1 = f at HF hc
  generalize t.2.2 = s at HS hc
  obtain ⟨p, hp⟩ : ∃ p, sgn x f = p := ⟨_, rfl⟩
  obtain ⟨q, hq⟩ : ∃ q, sgn y s = q := ⟨_, rfl⟩
  rw [hp, hq] at hc
  have HP := Lib.hid (fun w => compare_is x f p w hp)
  have HQ := Lib.hid (fun w => compare_is y s q w hq)
  have HO : Hid (∀ w' : World, Calls Tryd.prog 40 #[.slice (some ⟨w'.heap.size, 0, none⟩) 2 2] (w'.alloc (.cells #[.int .i64 p, .int .i64 q] 3)) fun e w'' => e = .returned (.int .i64 c) ∧ w'.alloc (.cells #[.int .i64 p, .int .i64 q] 3) = w'') := Lib.hid fun w' =>
    or_is w'.heap.size p q c _ ((World.cell?_alloc_mark w' _ 3 (0, 0) 0).trans rfl) ((World.cell?_alloc_mark w' _ 3 (0, 0) 1).trans rfl) hc
  have HT : Hid (Two w b1 b2 x y w) := Lib.hid ⟨h1, h2, Bel.refl w⟩
  have HFF : Hid (∀ w' : World, (w'.cell? ⟨b1, 0, none⟩ = some (.int .i32 x) ∧ w'.cell? ⟨b2, 0, none⟩ = some (.int .i32 y) ∧ Bel w w') → Calls Tryd.prog 42 #[.string L] w' fun e w'' => e = .returned (.int .i32 f) ∧ (w''.cell? ⟨b1, 0, none⟩ = some (.int .i32 x) ∧ w''.cell? ⟨b2, 0, none⟩ = some (.int .i32 y) ∧ Bel w w'')) := Lib.hid fun w' hc =>
    (HF.out w').mono fun e w'' he => ⟨he.1, Two.bel hc he.2⟩
  have HSS : Hid (∀ w' : World, (w'.cell? ⟨b1, 0, none⟩ = some (.int .i32 x) ∧ w'.cell? ⟨b2, 0, none⟩ = some (.int .i32 y) ∧ Bel w w') → Calls Tryd.prog 43 #[.string L] w' fun e w'' => e = .returned (.int .i32 s) ∧ (w''.cell? ⟨b1, 0, none⟩ = some (.int .i32 x) ∧ w''.cell? ⟨b2, 0, none⟩ = some (.int .i32 y) ∧ Bel w w'')) := Lib.hid fun w' hc =>
    (HS.out w').mono fun e w'' he => ⟨he.1, Two.bel hc he.2⟩
  clear h h16 hc h1 h2 HF HS hp hq
  go_enter Tryd.func39, Tryd.ntmps39
  go_wp2
  go_region_held3 (fun w' => w'.cell? ⟨b1, 0, none⟩ = some (.int .i32 x) ∧ w'.cell? ⟨b2, 0, none⟩ = some (.int .i32 y) ∧ Bel w w')
    (first | assumption | exact Two.bel HT.out ((Bel.refl _).drew) | exact Two.bel (by assumption) ((Bel.refl _).alloc _))
    (first | (go_at_call 42; refine (HFF.out _ (by assumption)).mono ?_; rintro e w1 ⟨rfl, hs1⟩) | (go_at_call 43; refine (HSS.out _ (by assumption)).mono ?_; rintro e w2 ⟨rfl, hs2⟩) | (go_at_call_of 41 x; refine (HP.out _).mono ?_; rintro e w3 ⟨rfl, rfl⟩) | (go_at_call_of 41 y; refine (HQ.out _).mono ?_; rintro e w3 ⟨rfl, rfl⟩) | (go_at_call 40; refine (HO.out _).mono ?_; rintro e w4 ⟨rfl, rfl⟩))
  all_goals go_wp2
  all_goals go_ret
  all_goals first | exact ⟨rfl, hs2.2.2.alloc _⟩ | exact ⟨rfl, hs1.2.2.alloc _⟩
theorem sgnJ {a b : Int} {t : Row3} (h16 : in16 t = true) : (if sgn a t.2.1 = 0 then sgn b t.2.2 else sgn a t.2.1) = sgn (kP a b) (kJ t) := by
  have g := in16_true.1 h16
  obtain ⟨_, f, s⟩ := t
  dsimp only at g ⊢
  unfold kJ kP
  dsimp only
  rw [cutB_in g.2.2.2.2.1 g.2.2.2.2.2]
  have hc := cutB_ways b
  rcases Int.lt_trichotomy a f with h | rfl | h
  · have e1 : sgn a f = -1 := by unfold sgn; rw [if_pos h]
    rw [e1, if_neg (by omega)]
    unfold sgn
    rw [if_pos (by omega)]
  · have e1 : sgn a a = 0 := sgn_zero.2 rfl
    rw [e1, if_pos rfl]
    unfold sgn
    rcases Int.lt_trichotomy b s with h | rfl | h
    · rw [if_pos h, if_pos (by omega)]
    · rw [if_neg (by omega), if_neg (by omega), if_neg (by omega), if_neg (by omega)]
    · rw [if_neg (by omega), if_pos h, if_neg (by omega), if_pos (by omega)]
  · have e1 : sgn a f = 1 := by unfold sgn; rw [if_neg (by omega), if_pos h]
    rw [e1, if_neg (by omega)]
    unfold sgn
    rw [if_neg (by omega), if_pos (by omega)]
end Go.Proofs.YtfgpgmfajjakpaaDoor.U
