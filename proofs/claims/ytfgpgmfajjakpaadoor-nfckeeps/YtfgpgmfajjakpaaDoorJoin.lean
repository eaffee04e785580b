/- What the joiner's own table answers of two characters. -/
import Derived.Test.YtfgpgmfajjakpaaDoorNfcM
import Derived.Test.YtfgpgmfajjakpaaDoorPairsJ
import Derived.Test.YtfgpgmfajjakpaaDoorHangJ
namespace Go.Proofs.YtfgpgmfajjakpaaDoor.U
open Go.RowKit
set_option linter.unusedVariables false

set_option maxHeartbeats 1000000 in
theorem tjoin_is (a b x : Int) (ok : Bool) (w : World) (h : Jn a b x ok) : Calls Tryd.prog 22 #[.agg #[], .int .i32 a, .int .i32 b] w (JoiIs w x ok) := by
  rcases h with ⟨h, rfl⟩ | ⟨⟨y, h⟩, h2⟩
  · have H1 := Lib.hid (fun w => pjoin_is a b x true w h)
    clear h
    go_enter Tryd.func22, Tryd.ntmps22
    go_wp2_with fail
    with_reducible refine (H1.out _).mono ?_
    rintro e w1 ⟨rfl, h1⟩
    have HB := Lib.hid (((Bel.refl w).alloc _).trans h1)
    clear h1 H1
    go_wp2
    go_ret2
    exact ⟨rfl, HB.out⟩
  · have H1 := Lib.hid (fun w => pjoin_is a b y false w h)
    have H2 := Lib.hid (fun w => hjoin_is a b x ok w h2)
    clear h h2
    go_enter Tryd.func22, Tryd.ntmps22
    go_wp2_with fail
    with_reducible refine (H1.out _).mono ?_
    rintro e w1 ⟨rfl, h1⟩
    have HB := Lib.hid (((Bel.refl w).alloc _).trans h1)
    clear h1 H1
    go_wp2_with fail
    with_reducible refine (H2.out _).mono ?_
    rintro e w2 ⟨rfl, rfl⟩
    clear H2
    go_wp2
    go_ret2
    exact ⟨rfl, HB.out⟩
end Go.Proofs.YtfgpgmfajjakpaaDoor.U
