/- What the two functions that are handed over answer of a line: on which side what is sought stands. -/
import Derived.Test.YtkdcmmaocbmedaaDoorLeaf
import Derived.Deep.RegionWith
namespace Go.Proofs.YtkdcmmaocbmedaaDoor.U
open Go.RowKit
set_option linter.unusedVariables false
attribute [local go_sem ↓] Go.wp_at_zero Go.wp_at_succ

theorem cell_bel {w w' : World} {p : Addr} {v : Value} (h : w.cell? p = some v) (hb : Bel w w') : w'.cell? p = some v := (Below.cell hb (cell_block h)).trans h

set_option maxHeartbeats 2000000 in
theorem sideS_is (r c : Int) (b : Nat) (L : ByteArray) (t : Row3) (w : World) (h : Ln L t) (h16 : in16 t = true) (hb : w.cell? ⟨b, 0, none⟩ = some (.int .i32 r)) (hc : sgn r t.1 = c) :
    Calls Tryd.prog 9 #[.string L, .pointer (some ⟨b, 0, none⟩)] w (IntIs w c) := by
  have HW := Lib.hid (fun w => whole_is L t w h h16)
  generalize t.1 = x at HW hc
  have HC := Lib.hid (fun w => compare_is r x c w hc)
  have HWW : Hid (∀ w' : World, w'.cell? ⟨b, 0, none⟩ = some (.int .i32 r) ∧ Bel w w' → Calls Tryd.prog 11 #[.string L] w' fun e w'' => e = .returned (.int .i32 x) ∧ (w''.cell? ⟨b, 0, none⟩ = some (.int .i32 r) ∧ Bel w w'')) := Lib.hid fun w' hc =>
    (HW.out w').mono fun e w'' he => ⟨he.1, cell_bel hc.1 he.2, hc.2.trans he.2⟩
  clear h h16 hc
  have hb0 : Bel w w := Bel.refl w
  go_enter Tryd.func9, Tryd.ntmps9
  go_wp2
  go_region_held3 (fun w' => w'.cell? ⟨b, 0, none⟩ = some (.int .i32 r) ∧ Bel w w') (first | assumption | exact ⟨hb, hb0.drew⟩)
    (first | (go_at_call 11; refine (HWW.out _ (by assumption)).mono ?_; rintro e w1 ⟨rfl, hs1⟩) | (go_at_call 10; refine (HC.out _).mono ?_; rintro e w2 ⟨rfl, rfl⟩))
  all_goals go_wp2
  all_goals go_ret
  all_goals exact ⟨rfl, hs1.2⟩

/-- What the region holds on to: both variables. -/
def Two (w : World) (b1 b2 : Nat) (x y : Int) (w' : World) : Prop := w'.cell? ⟨b1, 0, none⟩ = some (.int .i32 x) ∧ w'.cell? ⟨b2, 0, none⟩ = some (.int .i32 y) ∧ Bel w w'
theorem Two.bel {w w' w'' : World} {b1 b2 : Nat} {x y : Int} (h : Two w b1 b2 x y w') (hb : Bel w' w'') : Two w b1 b2 x y w'' := ⟨cell_bel h.1 hb, cell_bel h.2.1 hb, h.2.2.trans hb⟩

set_option maxHeartbeats 4000000 in
theorem sideJ_is (x y c : Int) (b1 b2 : Nat) (L : ByteArray) (t : Row3) (w : World) (h : Ln L t) (h16 : in16 t = true) (h1 : w.cell? ⟨b1, 0, none⟩ = some (.int .i32 x)) (h2 : w.cell? ⟨b2, 0, none⟩ = some (.int .i32 y)) (hc : (if sgn x t.2.1 = 0 then sgn y t.2.2 else sgn x t.2.1) = c) :
    Calls Tryd.prog 15 #[.string L, .pointer (some ⟨b1, 0, none⟩), .pointer (some ⟨b2, 0, none⟩)] w (IntIs w c) := by
  have HF := Lib.hid (fun w => first_is L t w h h16)
  have HS := Lib.hid (fun w => second_is L t w h h16)
  generalize t.2.1 = f at HF hc
  generalize t.2.2 = s at HS hc
  obtain ⟨p, hp⟩ : ∃ p, sgn x f = p := ⟨_, rfl⟩
  obtain ⟨q, hq⟩ : ∃ q, sgn y s = q := ⟨_, rfl⟩
  rw [hp, hq] at hc
  have HP := Lib.hid (fun w => compare_is x f p w hp)
  have HQ := Lib.hid (fun w => compare_is y s q w hq)
  have HO : Hid (∀ w' : World, Calls Tryd.prog 16 #[.slice (some ⟨w'.heap.size, 0, none⟩) 2 2] (w'.alloc (.cells #[.int .i64 p, .int .i64 q] 3)) fun e w'' => e = .returned (.int .i64 c) ∧ w'.alloc (.cells #[.int .i64 p, .int .i64 q] 3) = w'') := Lib.hid fun w' =>
    or_is w'.heap.size p q c _ ((World.cell?_alloc_mark w' _ 3 (0, 0) 0).trans rfl) ((World.cell?_alloc_mark w' _ 3 (0, 0) 1).trans rfl) hc
  have HT : Hid (Two w b1 b2 x y w) := Lib.hid ⟨h1, h2, Bel.refl w⟩
  have HFF : Hid (∀ w' : World, (w'.cell? ⟨b1, 0, none⟩ = some (.int .i32 x) ∧ w'.cell? ⟨b2, 0, none⟩ = some (.int .i32 y) ∧ Bel w w') → Calls Tryd.prog 12 #[.string L] w' fun e w'' => e = .returned (.int .i32 f) ∧ (w''.cell? ⟨b1, 0, none⟩ = some (.int .i32 x) ∧ w''.cell? ⟨b2, 0, none⟩ = some (.int .i32 y) ∧ Bel w w'')) := Lib.hid fun w' hc =>
    (HF.out w').mono fun e w'' he => ⟨he.1, Two.bel hc he.2⟩
  have HSS : Hid (∀ w' : World, (w'.cell? ⟨b1, 0, none⟩ = some (.int .i32 x) ∧ w'.cell? ⟨b2, 0, none⟩ = some (.int .i32 y) ∧ Bel w w') → Calls Tryd.prog 13 #[.string L] w' fun e w'' => e = .returned (.int .i32 s) ∧ (w''.cell? ⟨b1, 0, none⟩ = some (.int .i32 x) ∧ w''.cell? ⟨b2, 0, none⟩ = some (.int .i32 y) ∧ Bel w w'')) := Lib.hid fun w' hc =>
    (HS.out w').mono fun e w'' he => ⟨he.1, Two.bel hc he.2⟩
  clear h h16 hc h1 h2 HF HS hp hq
  go_enter Tryd.func15, Tryd.ntmps15
  go_wp2
  go_region_held3 (fun w' => w'.cell? ⟨b1, 0, none⟩ = some (.int .i32 x) ∧ w'.cell? ⟨b2, 0, none⟩ = some (.int .i32 y) ∧ Bel w w')
    (first | assumption | exact Two.bel HT.out ((Bel.refl _).drew) | exact Two.bel (by assumption) ((Bel.refl _).alloc _))
    (first | (go_at_call 12; refine (HFF.out _ (by assumption)).mono ?_; rintro e w1 ⟨rfl, hs1⟩) | (go_at_call 13; refine (HSS.out _ (by assumption)).mono ?_; rintro e w2 ⟨rfl, hs2⟩) | (go_at_call_of 10 x; refine (HP.out _).mono ?_; rintro e w3 ⟨rfl, rfl⟩) | (go_at_call_of 10 y; refine (HQ.out _).mono ?_; rintro e w3 ⟨rfl, rfl⟩) | (go_at_call 16; refine (HO.out _).mono ?_; rintro e w4 ⟨rfl, rfl⟩))
  all_goals go_wp2
  all_goals go_ret
  all_goals first | exact ⟨rfl, hs2.2.2.alloc _⟩ | exact ⟨rfl, hs1.2.2.alloc _⟩
end Go.Proofs.YtkdcmmaocbmedaaDoor.U
