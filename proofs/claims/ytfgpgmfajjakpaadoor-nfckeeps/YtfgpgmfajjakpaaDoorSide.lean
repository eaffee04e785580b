/- What the two functions that are handed over answer of a line: on which side what is sought stands. -/
import Derived.Test.YtfgpgmfajjakpaaDoorPLeaf
import Derived.Deep.RegionWith
namespace Go.Proofs.YtfgpgmfajjakpaaDoor.U
open Go.RowKit
set_option linter.unusedVariables false
attribute [local go_sem ↓] Go.wp_at_zero Go.wp_at_succ

set_option maxHeartbeats 2000000 in
theorem sideS_is (r c : Int) (b : Nat) (L : ByteArray) (t : Row3) (w : World) (h : Ln L t) (h16 : in16 t = true) (hb : w.cell? ⟨b, 0, none⟩ = some (.int .i32 r)) (hc : sgn r t.1 = c) :
    Calls Tryd.prog 49 #[.string L, .pointer (some ⟨b, 0, none⟩)] w (IntIs w c) := by
  have HW := Lib.hid (fun w => whole_is L t w h h16)
  generalize t.1 = x at HW hc
  have HC := Lib.hid (fun w => compare_is r x c w hc)
  have HWW : Hid (∀ w' : World, w'.cell? ⟨b, 0, none⟩ = some (.int .i32 r) ∧ Bel w w' → Calls Tryd.prog 44 #[.string L] w' fun e w'' => e = .returned (.int .i32 x) ∧ (w''.cell? ⟨b, 0, none⟩ = some (.int .i32 r) ∧ Bel w w'')) := Lib.hid fun w' hc =>
    (HW.out w').mono fun e w'' he => ⟨he.1, cell_bel hc.1 he.2, hc.2.trans he.2⟩
  clear h h16 hc
  have hb0 : Bel w w := Bel.refl w
  go_enter Tryd.func49, Tryd.ntmps49
  go_wp2
  go_region_held3 (fun w' => w'.cell? ⟨b, 0, none⟩ = some (.int .i32 r) ∧ Bel w w') (first | assumption | exact ⟨hb, hb0.drew⟩)
    (first | (go_at_call 44; refine (HWW.out _ (by assumption)).mono ?_; rintro e w1 ⟨rfl, hs1⟩) | (go_at_call 41; refine (HC.out _).mono ?_; rintro e w2 ⟨rfl, rfl⟩))
  all_goals go_wp2
  all_goals go_ret
  all_goals exact ⟨rfl, hs1.2⟩

end Go.Proofs.YtfgpgmfajjakpaaDoor.U
