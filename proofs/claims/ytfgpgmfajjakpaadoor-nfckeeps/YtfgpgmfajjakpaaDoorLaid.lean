/- What the listed variable gives the walks: of all of them the table of spans alone, cell for cell; and a world in which it lies so. -/
import Derived.Test.YtfgpgmfajjakpaaDoorRows
import Derived.Test.YtfgpgmfajjakpaaDoorNfd
import Derived.WalkKit
import Derived.ProofKit
import Derived.Lay
import Derived.LaidOnce
import Derived.SevenTiedAt
import Derived.Lib.LaidTab
import Derived.Stop.LaidErr
namespace Go.Proofs.YtfgpgmfajjakpaaDoor.U
open Go.ChangeShapes Go.WideShapes Go.ChangeAt Go.RowKit
set_option linter.unusedVariables false

theorem fit32 {x : Int} (h : (Lit.int .i32 x).wf = true) : -2147483648 ≤ x ∧ x ≤ 2147483647 := by
  have := bounds_i32 h
  omega
theorem fit8 {x : Int} (h : (Lit.int .u8 x).wf = true) : 0 ≤ x ∧ x < 256 := by
  have := bounds_u8 h
  omega

def laidL : List (String × DataW Unit) := Rows.nfcTwiceRow.laid
def rowData (s : Row) : DataW Unit := .agg [.lit (.int .i32 s.1), .lit (.int .i32 s.2.1), .lit (.int .u8 s.2.2.1), .lit (.int .u8 s.2.2.2)]
def nSp : String := Rows.nfcTwiceRow.named[5]
theorem gSp : Tryd.prog.globalNamed nSp = some 0 := by kernel_rfl
theorem tSp : (Tryd.prog.globals[0]?).map (·.type) = some 57 := by kernel_rfl
theorem c21 : Tryd.prog.cellsOf 21 = 1 := by kernel_rfl
theorem c5 : Tryd.prog.cellsOf 5 = 1 := by kernel_rfl
theorem c56 : Tryd.prog.cellsOf 56 = 4 := by kernel_rfl
theorem c57 : Tryd.prog.cellsOf 57 = 160 := by kernel_rfl

theorem row_of {W : World} {fuel : Nat} {cs : List Value} {s : Row} {p : List MemPlace} (h : DataW.trod (fun _ => ()) Tryd.prog W 0 (fun _ => true) false fuel 56 cs = some (rowData s, p)) : cs = row4 s := by
  obtain ⟨xs, n, rfl, hx, hl, hxl, hf⟩ := DataW.trod_struct Tryd.underlying56 h
  have f0 := hf 0 _ rfl
  have f1 := hf 1 _ rfl
  have f2 := hf 2 _ rfl
  have f3 := hf 3 _ rfl
  clear hf h
  rw [c56] at hl
  obtain ⟨c0, c1, c2, c3, rfl⟩ : ∃ a b c d, cs = [a, b, c, d] := by
    rcases cs with _ | ⟨a, _ | ⟨b, _ | ⟨c, _ | ⟨d, _ | ⟨e, t⟩⟩⟩⟩⟩ <;> simp at hl
    exact ⟨a, b, c, d, rfl⟩
  obtain ⟨x0, x1, x2, x3, rfl⟩ : ∃ a b c d, xs = [a, b, c, d] := by
    have hxl : xs.length = 4 := hxl
    rcases xs with _ | ⟨a, _ | ⟨b, _ | ⟨c, _ | ⟨d, _ | ⟨e, t⟩⟩⟩⟩⟩ <;> simp at hxl
    exact ⟨a, b, c, d, rfl⟩
  have e0 : (rowData s) = .agg [x0.1, x1.1, x2.1, x3.1] := congrArg Prod.fst hx
  simp only [rowData, DataW.agg.injEq, List.cons.injEq, and_true] at e0
  obtain ⟨e0, e1, e2, e3⟩ := e0
  have g0 : DataW.trod (fun _ => ()) Tryd.prog W 0 (fun _ => true) false n 21 (([c0, c1, c2, c3].drop 0).take (Tryd.prog.cellsOf 21)) = some x0 := f0
  rw [c21] at g0
  have k0 : DataW.trod (fun _ => ()) Tryd.prog W 0 (fun _ => true) false n 21 [c0] = some x0 := g0
  have g1 : DataW.trod (fun _ => ()) Tryd.prog W 0 (fun _ => true) false n 21 (([c0, c1, c2, c3].drop 1).take (Tryd.prog.cellsOf 21)) = some x1 := f1
  rw [c21] at g1
  have k1 : DataW.trod (fun _ => ()) Tryd.prog W 0 (fun _ => true) false n 21 [c1] = some x1 := g1
  have g2 : DataW.trod (fun _ => ()) Tryd.prog W 0 (fun _ => true) false n 5 (([c0, c1, c2, c3].drop 2).take (Tryd.prog.cellsOf 5)) = some x2 := f2
  rw [c5] at g2
  have k2 : DataW.trod (fun _ => ()) Tryd.prog W 0 (fun _ => true) false n 5 [c2] = some x2 := g2
  have g3 : DataW.trod (fun _ => ()) Tryd.prog W 0 (fun _ => true) false n 5 (([c0, c1, c2, c3].drop 3).take (Tryd.prog.cellsOf 5)) = some x3 := f3
  rw [c5] at g3
  have k3 : DataW.trod (fun _ => ()) Tryd.prog W 0 (fun _ => true) false n 5 [c3] = some x3 := g3
  clear f0 f1 f2 f3 g0 g1 g2 g3
  obtain ⟨n0, h0, rfl, _⟩ := DataW.trod_int Tryd.underlying21 k0
  obtain ⟨n1, h1, rfl, _⟩ := DataW.trod_int Tryd.underlying21 k1
  obtain ⟨n2, h2, rfl, _⟩ := DataW.trod_int Tryd.underlying5 k2
  obtain ⟨n3, h3, rfl, _⟩ := DataW.trod_int Tryd.underlying5 k3
  simp only [DataW.lit.injEq, Lit.int.injEq, true_and] at e0 e1 e2 e3
  simp only [List.cons.injEq, and_true] at h0 h1 h2 h3
  simp [row4, h0, h1, h2, h3, e0, e1, e2, e3]

theorem rows_of {W : World} {fuel : Nat} {cs : List Value} {p : List MemPlace} (h : DataW.trod (fun _ => ()) Tryd.prog W 0 (fun _ => true) false fuel 57 cs = some (.agg (tab.map rowData), p)) :
    ∀ i s, tab[i]? = some s → (cs.drop (i * 4)).take 4 = row4 s := by
  cases fuel with
  | zero => simp [DataW.trod] at h
  | succ fuel =>
    simp only [DataW.trod, Tryd.underlying57, c56, c57] at h
    split at h
    · obtain ⟨xs, hm, hx⟩ := Option.map_eq_some_iff.1 h
      have hxs : xs.map (·.1) = tab.map rowData := by
        have := congrArg Prod.fst hx
        simpa using this
      intro i s hs
      have hi : i < 40 := by rw [← tab_len]; exact (List.getElem?_eq_some_iff.1 hs).1
      obtain ⟨b, hb, hf⟩ := Lib.mapM_at hm i i (by simp [hi])
      have h2 : (xs.map (·.1))[i]? = some b.1 := by simp [hb]
      rw [hxs, List.getElem?_map, hs] at h2
      have e : b = (rowData s, b.2) := by
        have := Option.some.inj h2
        exact Prod.ext this.symm rfl
      rw [e] at hf
      exact row_of hf
    · cases h

theorem sp_of {W : World} (h : laidMetH Tryd.prog laidL W) : Sp W := by
  rw [MakeChecks.laidMetH_plain _ _ _ (by kernel_rfl)] at h
  have h1 : laidMet Tryd.prog ((nSp, .agg (tab.map rowData)) :: laidL.drop 4) W := laidMet.tail (laidMet.tail (laidMet.tail h))
  obtain ⟨ps, ⟨g, t, cs, fuel, p, q, hg, ht, hvar, hd, _, _⟩, _⟩ := h1
  obtain rfl := Option.some.inj (gSp.symm.trans hg)
  obtain rfl := Option.some.inj (tSp.symm.trans ht)
  have hR := rows_of hd
  intro j v hv
  have hj : j < 160 := by
    have := (List.getElem?_eq_some_iff.1 hv).1
    rwa [show tabC.length = 160 by kernel_rfl] at this
  obtain ⟨s, hs⟩ := tab_at (i := j / 4) (by omega)
  have h1 := flat4 row4 (fun _ => rfl) tab (j / 4) s hs (j % 4) (by omega)
  rw [show j / 4 * 4 + j % 4 = j by omega] at h1
  have h2 := congrArg (·[j % 4]?) (hR (j / 4) s hs)
  simp only [List.getElem?_take, List.getElem?_drop, show j % 4 < 4 by omega, if_true, show j / 4 * 4 + j % 4 = j by omega] at h2
  have h3 := World.var?_cell gSp hvar j
  rw [Nat.zero_add, h3, ← Array.getElem?_toList, h2, ← h1]
  exact hv
end Go.Proofs.YtfgpgmfajjakpaaDoor.U
