/- What the reference's spans and Class answer. -/
import Derived.Test.YtdjaacmaljcnhaaDoorRefM
import Derived.Test.YtdjaacmaljcnhaaDoorChecked
import Derived.Test.YtdjaacmaljcnhaaDoorBase
import Derived.LoopN
namespace Go.Proofs.YtdjaacmaljcnhaaDoor.U
open Go.RowKit
set_option linter.unusedVariables false

theorem flat4 (f : Row → List Value) (hf : ∀ x, (f x).length = 4) : ∀ (l : List Row) (i : Nat) (x : Row), l[i]? = some x → ∀ j, j < 4 → (l.flatMap f)[i * 4 + j]? = (f x)[j]?
  | [], i, x, h, _, _ => by simp at h
  | y :: t, 0, x, h, j, hj => by
    simp at h
    subst h
    rw [List.flatMap_cons, List.getElem?_append_left (by rw [hf]; omega)]
    simp
  | y :: t, i + 1, x, h, j, hj => by
    simp at h
    rw [List.flatMap_cons, List.getElem?_append_right (by rw [hf]; omega), hf]
    rw [show (i + 1) * 4 + j - 4 = i * 4 + j by omega]
    exact flat4 f hf t i x h j hj
def rrow4 (s : Row) : List Value := [.int .i64 s.1, .int .i64 s.2.1, .int .i64 s.2.2.1, .int .i64 s.2.2.2]
def rtabC : List Value := rtab.flatMap rrow4
def Rs (w : World) (g : Nat) : Prop := w.rangeAt g 0 rtabC
theorem Rs.bel {w w' : World} {g : Nat} (h : Rs w g) (hb : Bel w w') : Rs w' g := fun j v hv => by
  have := h j v hv
  exact (Below.cell hb (p := ⟨g, 0 + j, none⟩) (cell_block this)).trans this
theorem Rs.at {w : World} {g : Nat} (h : Rs w g) {i : Nat} {s : Row} (hi : rtab[i]? = some s) :
    w.cell? ⟨g, i * 4, none⟩ = some (.int .i64 s.1) ∧ w.cell? ⟨g, i * 4 + 1, none⟩ = some (.int .i64 s.2.1) ∧ w.cell? ⟨g, i * 4 + 2, none⟩ = some (.int .i64 s.2.2.1) ∧ w.cell? ⟨g, i * 4 + 3, none⟩ = some (.int .i64 s.2.2.2) := by
  have k : ∀ j v, j < 4 → (rrow4 s)[j]? = some v → w.cell? ⟨g, i * 4 + j, none⟩ = some v := fun j v hj hv => by
    have := h (i * 4 + j) v ((flat4 rrow4 (fun _ => rfl) rtab i s hi j hj).trans hv)
    rwa [Nat.zero_add] at this
  exact ⟨k 0 _ (by omega) rfl, k 1 _ (by omega) rfl, k 2 _ (by omega) rfl, k 3 _ (by omega) rfl⟩
def SpansPost (w : World) (e : Ending) (w' : World) : Prop := ∃ g, e = .returned (.slice (some ⟨g, 0, none⟩) 43 43) ∧ Rs w' g ∧ Bel w w'

theorem wp_val {P : Program} {o : Oper} {a : Act} {w : World} {K : Act → World → Prop} {Q : Exit → Act → World → Prop} (v : Value) (w' : World) (h : (execOp a.eval o).run P w = .ok (.value v) w') (hK : K (a.put o.dst v) w') : o.wp P a w K Q := by
  unfold Oper.wp; rw [h]; exact hK

set_option maxRecDepth 100000 in
set_option maxHeartbeats 4000000 in
theorem rspans_any (w : World) : Calls Tryd.prog 16 #[] w (SpansPost w) := by
  go_enter Tryd.func16, Tryd.ntmps16
  go_wp2
  rename_i K1 h1 K2 h2
  refine wp_val (.slice (some ⟨w.heap.size, 0, none⟩) 43 43) (w.alloc (.cells rtabC.toArray 35)) ?_ ?_
  · kernel_rfl
  · apply h2
    go_wp2
    go_ret
    refine ⟨w.heap.size, rfl, fun j v hv => ?_, (Bel.refl _).alloc _⟩
    rw [Nat.zero_add]
    refine (World.cell?_alloc_mark w _ 35 (0, 0) j).trans ?_
    simpa using hv
end Go.Proofs.YtdjaacmaljcnhaaDoor.U
