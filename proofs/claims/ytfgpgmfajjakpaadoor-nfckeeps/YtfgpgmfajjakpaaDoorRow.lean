/- What a row's own method answers. -/
import Derived.Test.YtfgpgmfajjakpaaDoorLeaf
namespace Go.Proofs.YtfgpgmfajjakpaaDoor.U
open Go.RowKit
set_option linter.unusedVariables false

set_option maxHeartbeats 2000000 in
theorem classOf_is (s : Row) (r v : Int) (w : World) (hs : 768 ≤ s.1 ∧ s.1 ≤ s.2.1 ∧ s.2.1 ≤ 65059 ∧ 1 ≤ s.2.2.1 ∧ s.2.2.1 ≤ 240 ∧ (s.2.2.2 = 0 ∨ s.2.2.2 = 1)) (hr : s.1 ≤ r ∧ r ≤ s.2.1) (hv : cval s r = v) :
    Calls Tryd.prog 37 #[.agg #[.int .i32 s.1, .int .i32 s.2.1, .int .u8 s.2.2.1, .int .u8 s.2.2.2], .int .i32 r] w fun e w' => e = .returned (.int .i64 v) ∧ Gr w w' := by
  obtain ⟨s0, s1, s2, s3⟩ := s
  dsimp only [cval] at hs hr hv ⊢
  obtain ⟨h0, h1, h2, h3, h4, h5⟩ := hs
  obtain ⟨g0, g1⟩ := hr
  rcases h5 with rfl | rfl
  · rw [Int.mul_zero, Int.add_zero] at hv
    subst hv
    go_enter Tryd.func37, Tryd.ntmps37
    go_wp2
    go_ret
    exact ⟨by first | rfl | exact ret_int (by omega), (Gr.refl _).alloc _⟩
  · rw [Int.mul_one] at hv
    have q0 : 0 ≤ r - s0 := by omega
    have q1 : r - s0 ≤ 65059 := by omega
    go_enter Tryd.func37, Tryd.ntmps37
    go_wp2
    go_ret
    exact ⟨by first | rfl | exact ret_int (by omega), (Gr.refl _).alloc _⟩
end Go.Proofs.YtfgpgmfajjakpaaDoor.U
