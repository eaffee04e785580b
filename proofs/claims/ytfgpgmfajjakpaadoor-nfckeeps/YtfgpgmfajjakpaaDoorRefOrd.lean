/- The reference's Class, where blocks were laid; a new list without elements. -/
import Derived.Test.YtfgpgmfajjakpaaDoorOrder
import Derived.Test.YtfgpgmfajjakpaaDoorRefOf
import Derived.Deep.LoopGhost
namespace Go.Proofs.YtfgpgmfajjakpaaDoor.U
open Go.RowKit
set_option linter.unusedVariables false

/-- Characters are 32 bits. -/
def Fit (l : List Int) : Prop := ∀ x ∈ l, -2147483648 ≤ x ∧ x ≤ 2147483647
theorem rclass_at (x c : Int) (w : World) (hf : -2147483648 ≤ x ∧ x ≤ 2147483647) (hc : cls x = c) (n : Nat) (os : Array Obj) :
    Calls Tryd.prog 12 #[.int .i32 x] (Sort.grow (w.drewN n) os) fun e w' => e = .returned (.int .i64 c) ∧ ∃ q os', w' = Sort.grow ((Sort.grow (w.drewN n) os).drewN q) os' :=
  rclass_is x c _ hf hc
theorem Own.empty_at {w : World} {n : Nat} (e : TypeId) (k : IntKind) (h : w.heap.size = n) : Own (w.alloc (.cells #[] e)) n e k (.slice (some ⟨n, 0, none⟩) 0 0) [] := by
  subst h; exact Own.empty w e k

end Go.Proofs.YtfgpgmfajjakpaaDoor.U
