/- What the test of the search, the search by halves and a row's own method answer. -/
import Derived.Test.YtfgpgmfajjakpaaDoorChecked
import Derived.Test.YtfgpgmfajjakpaaDoorBase
import Derived.LoopN
import Derived.Deep.MidRow
namespace Go.Proofs.YtfgpgmfajjakpaaDoor.U
open Go.RowKit
set_option linter.unusedVariables false

/-- A row's cells; the table's. -/
def row4 (s : Row) : List Value := [.int .i32 s.1, .int .i32 s.2.1, .int .u8 s.2.2.1, .int .u8 s.2.2.2]
def tabC : List Value := tab.flatMap row4
theorem flat4 (f : Row → List Value) (hf : ∀ x, (f x).length = 4) : ∀ (l : List Row) (i : Nat) (x : Row), l[i]? = some x → ∀ j, j < 4 → (l.flatMap f)[i * 4 + j]? = (f x)[j]?
  | [], i, x, h, _, _ => by simp at h
  | y :: t, 0, x, h, j, hj => by
    simp at h
    subst h
    rw [List.flatMap_cons, List.getElem?_append_left (by rw [hf]; omega)]
    simp
  | y :: t, i + 1, x, h, j, hj => by
    simp at h
    rw [List.flatMap_cons, List.getElem?_append_right (by rw [hf]; omega), hf]
    rw [show (i + 1) * 4 + j - 4 = i * 4 + j by omega]
    exact flat4 f hf t i x h j hj
/-- The table lies in its variable. -/
def Sp (w : World) : Prop := w.rangeAt 0 0 tabC
theorem Sp.bel {w w' : World} (h : Sp w) (hb : Gr w w') : Sp w' := fun j v hv => by
  have := h j v hv
  exact (Below.cell hb.bel (p := ⟨0, 0 + j, none⟩) (cell_block this)).trans this
theorem Sp.below {w w' : World} {B : Nat} (h : Sp w) (hb : Below B w w') (h0 : 0 < B) : Sp w' := fun j v hv => by
  have := h j v hv
  exact (Below.cell hb (p := ⟨0, 0 + j, none⟩) h0).trans this
theorem Sp.size {w : World} (h : Sp w) : 0 < w.heap.size := by
  have := h 0 (.int .i32 768) rfl
  exact cell_block this
theorem Sp.by {w w' : World} (h : Sp w) (hb : Bel w w') : Sp w' := h.below hb h.size
theorem Sp.at {w : World} (h : Sp w) {i : Nat} {s : Row} (hi : tab[i]? = some s) :
    w.cell? ⟨0, i * 4, none⟩ = some (.int .i32 s.1) ∧ w.cell? ⟨0, i * 4 + 1, none⟩ = some (.int .i32 s.2.1) ∧ w.cell? ⟨0, i * 4 + 2, none⟩ = some (.int .u8 s.2.2.1) ∧ w.cell? ⟨0, i * 4 + 3, none⟩ = some (.int .u8 s.2.2.2) := by
  have k : ∀ j v, j < 4 → (row4 s)[j]? = some v → w.cell? ⟨0, i * 4 + j, none⟩ = some v := fun j v hj hv => by
    have := h (i * 4 + j) v ((flat4 row4 (fun _ => rfl) tab i s hi j hj).trans hv)
    rwa [Nat.zero_add] at this
  exact ⟨k 0 _ (by omega) rfl, k 1 _ (by omega) rfl, k 2 _ (by omega) rfl, k 3 _ (by omega) rfl⟩

set_option maxHeartbeats 2000000 in
theorem test_is (r : Int) (i b : Nat) (s : Row) (t : Bool) (w : World) (h : Sp w) (hi : tab[i]? = some s) (h40 : i < 40) (hb : w.cell? ⟨b, 0, none⟩ = some (.int .i32 r)) (ht : upTo r i = t) :
    Calls Tryd.prog 36 #[.int .i64 i, .pointer (some ⟨b, 0, none⟩)] w fun e w' => e = .returned (.bool t) ∧ Gr w w' := by
  obtain ⟨c0, c1, c2, c3⟩ := h.at hi
  have ht' := (upTo_is (r := r) hi).symm.trans ht
  clear h hi ht c0 c2 c3
  obtain ⟨s0, s1, s2, s3⟩ := s
  dsimp only at c1 ht'
  have q0 : (0 : Int) ≤ (i : Int) := by omega
  have q1 : (i : Int) < 40 := by omega
  go_enter Tryd.func36, Tryd.ntmps36
  go_wp2
  go_quiet (fail)
  go_wp2
  go_ret
  exact ⟨rfl, (Gr.refl _).drewN _⟩

end Go.Proofs.YtfgpgmfajjakpaaDoor.U
