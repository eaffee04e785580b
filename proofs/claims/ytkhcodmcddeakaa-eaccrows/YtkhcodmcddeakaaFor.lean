/- What eacc.runFor answers: of the ten runs the last one that does not begin behind a number. No condition. -/
import Derived.Test.YtkhcodmcddeakaaRuns
import Derived.Laws.CopyOwn
import Derived.Lib.Builder
namespace Go.Proofs.Ytkhcodmcddeakaa.U
open Go.RowKit
set_option linter.unusedVariables false

/-- The cells of the run that is told. -/
def fc (S : Nat → ByteArray) : Option Nat → Array Value
  | none => #[.int .i64 0, .string ⟨#[]⟩, .bool false]
  | some k => rc S k
theorem fc_is (S : Nat → ByteArray) (o : Option Nat) : ∃ f T b, fc S o = #[.int .i64 f, .string T, .bool b] := by
  cases o with
  | none => exact ⟨_, _, _, rfl⟩
  | some k => exact ⟨_, _, _, rfl⟩

theorem index_at (S : Nat → ByteArray) {k : Nat} (hk : k < 10) (w : World) : (Instr.index 35 (.agg (rcs S)) (.int .i64 k)).run Try.prog w = .ok (.agg #[.int .i64 (fst k), .string (S k), .bool (alt k)]) w := by
  have h := rcs_at S k hk
  have h2 : (0 : Int) ≤ k ∧ (k : Int) < 10 := by omega
  have h3 : k * 3 + 3 = 3 + k * 3 := by omega
  unfold Instr.index part
  simp [go_sem, Try.isAgg33, Try.sizeOf33, Result.andThen, h2, h, rc]
  omega

/-- A row of three cells that is written over cell by cell. -/
theorem three_set {w : World} {g : Nat} {a b c x y z : Value} {t : TypeId} (h : w.heap[g]? = some (.cells #[a, b, c] t (0, 0))) :
    (((w.setCell ⟨g, 0, none⟩ x).setCell ⟨g, 1, none⟩ y).setCell ⟨g, 2, none⟩ z).heap[g]? = some (.cells #[x, y, z] t (0, 0)) := by
  simp [World.setCell, Array.getElem?_modify, h]
theorem three_cells {w : World} {g : Nat} {a b c : Value} {t : TypeId} (h : w.heap[g]? = some (.cells #[a, b, c] t (0, 0))) :
    w.cell? ⟨g, 0, none⟩ = some a ∧ w.cell? ⟨g, 1, none⟩ = some b ∧ w.cell? ⟨g, 2, none⟩ = some c := by
  simp [World.cell?, h]
theorem three_free {w : World} {g : Nat} {a b c : Value} {t : TypeId} (h : w.heap[g]? = some (.cells #[a, b, c] t (0, 0))) :
    w.frozen? ⟨g, 0, none⟩ = false ∧ w.frozen? ⟨g, 1, none⟩ = false ∧ w.frozen? ⟨g, 2, none⟩ = false := by
  simp [World.frozen?, h]

def RelF (S : Nat → ByteArray) (n : Int) (w : World) (i : Value) (wr : World) : Prop :=
  ∃ k : Nat, k ≤ 10 ∧ i = .int .i64 k ∧ wr.heap[w.heap.size]? = some (.cells (fc S (best n k)) 33 (0, 0)) ∧ Bel w wr

set_option maxRecDepth 100000 in
set_option maxHeartbeats 2000000 in
theorem runFor_is (n : Int) (w : World) : Calls Try.prog 9 #[.int .i64 n] w fun e w' => e = .returned (.agg (fc (strAt Try.f11) (best n 10))) ∧ Bel w w' := by
  have HR := Lib.hid runs_is
  have HI := Lib.hid (fun k (hk : k < 10) w => index_at (strAt Try.f11) hk w)
  generalize strAt Try.f11 = S at HR HI ⊢
  generalize rcs S = V at HR HI
  go_enter Try.func9, Try.ntmps9
  go_wp2_with (go_at_call 11; refine (HR.out _).mono ?_; rintro e w2 ⟨rfl, hb⟩)
  have hg0 : w2.heap[w.heap.size]? = some (.cells (fc S (best n 0)) 33 (0, 0)) := (Below.block hb _ (by simp)).trans (heap_alloc_last w _)
  have hb0 : Bel w w2 := ((Bel.refl w).alloc _).trans hb
  have HG0 := Lib.hid hg0
  have HB0 := Lib.hid hb0
  clear hg0 hb0 hb
  go_loopw [6] (fun i wr => RelF S n w i wr) (fun i _ => 10 - (intOf i).toNat)
  case atStart => exact ⟨0, by omega, rfl, HG0.out, HB0.out⟩
  case round =>
    obtain ⟨k, hk, rfl, hg, hB⟩ := hrel
    have HB := Lib.hid hB
    have HG := Lib.hid hg
    have hlt : w.heap.size < wr.heap.size := (Array.getElem?_eq_some_iff.1 hg).1
    clear hB hg
    by_cases hlk : k < 10
    · have hix := fun w => HI.out k hlk w
      have HS := Lib.hid (show rc S k = #[.int .i64 (fst k), .string (S k), .bool (alt k)] from rfl)
      have HN := Lib.hid (show best n (k + 1) = if fst k ≤ n then some k else best n k from rfl)
      obtain ⟨f0, T0, b0, hf0⟩ := fc_is S (best n k)
      have hg := HG.out
      rw [hf0] at hg
      obtain ⟨c0, c1, c2⟩ := three_cells hg
      obtain ⟨z0, z1, z2⟩ := three_free hg
      have H3 := Lib.hid hg
      replace hf0 := Lib.hid hf0
      clear hg
      generalize fst k = f at hix HS HN
      generalize S k = T at hix HS
      generalize alt k = b at hix HS
      by_cases hle : f ≤ n
      · go_wp2
        refine ⟨⟨k + 1, by omega, rfl, ?_, ?_⟩, by simp [intOf]; omega⟩
        · rw [HN.out, if_pos hle]
          show _ = some (Obj.cells (rc S k) 33 (0, 0))
          rw [HS.out]
          refine (Lib.alloc_old _ _ _ ?_).trans (three_set H3.out)
          simpa using hlt
        · refine Bel.alloc ?_ _
          exact ((Below.setCell HB.out (p := ⟨w.heap.size, 0, none⟩) (by simp) _).setCell (p := ⟨w.heap.size, 1, none⟩) (by simp) _).setCell (p := ⟨w.heap.size, 2, none⟩) (by simp) _
      · go_wp2
        refine ⟨⟨k + 1, by omega, rfl, ?_, HB.out.alloc _⟩, by simp [intOf]; omega⟩
        rw [HN.out, if_neg hle]
        exact (Lib.alloc_old _ _ _ hlt).trans HG.out
    · obtain rfl : k = 10 := by omega
      obtain ⟨f0, T0, b0, hf0⟩ := fc_is S (best n 10)
      have hg := HG.out
      rw [hf0] at hg
      obtain ⟨c0, c1, c2⟩ := three_cells hg
      obtain ⟨z0, z1, z2⟩ := three_free hg
      have H3 := Lib.hid hg
      replace hf0 := Lib.hid hf0
      clear hg
      go_wp2
      refine bodyPost_ret (v := .agg #[.int .i64 f0, .string T0, .bool b0]) ?_ rfl ⟨by rw [hf0.out], ?_⟩
      · exact results_cell_row rfl _ _ w.heap.size 33 _ (0, 0) _ rfl (three_set H3.out) Try.underlying33 rfl (by kernel_rfl)
      · exact ((Below.setCell HB.out (p := ⟨w.heap.size, 0, none⟩) (by simp) _).setCell (p := ⟨w.heap.size, 1, none⟩) (by simp) _).setCell (p := ⟨w.heap.size, 2, none⟩) (by simp) _
end Go.Proofs.Ytkhcodmcddeakaa.U
