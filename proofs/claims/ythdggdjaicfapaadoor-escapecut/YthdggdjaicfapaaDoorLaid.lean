/- What the listed variable gives the walks: the table of last bytes, cell for cell; and a world in which it lies so. -/
import Derived.Test.YthdggdjaicfapaaDoorRows
import Derived.Test.YthdggdjaicfapaaDoorLeaf
import Derived.WalkKit
import Derived.ProofKit
import Derived.Lay
import Derived.LaidOnce
import Derived.SevenTiedAt
import Derived.Lib.LaidTab
import Derived.Lib.LaidU8
import Derived.Stop.LaidErr
namespace Go.Proofs.YthdggdjaicfapaaDoor.U
open Go.ChangeShapes Go.WideShapes Go.ChangeAt Go.RowKit
set_option linter.unusedVariables false

theorem fit8 {x : Int} (h : (Lit.int .u8 x).wf = true) : 0 ≤ x ∧ x < 256 := by
  have := bounds_u8 h
  omega

def laidL : List (String × DataW Unit) := Rows.escapeReadsRow.laid
def rowData (l : List Int) : DataW Unit := .lit (.string (bs l))
def nTb : String := (Rows.escapeReadsRow.named).getD 2 ""
theorem gTb : Tryd.prog.globalNamed nTb = some 0 := by kernel_rfl
theorem tTb : (Tryd.prog.globals[0]?).map (·.type) = some 62 := by kernel_rfl
theorem c9 : Tryd.prog.cellsOf 9 = 1 := by kernel_rfl
theorem c49 : Tryd.prog.cellsOf 62 = 13 := by kernel_rfl
theorem laid_same2 : Rows.escapePrintsRow.laid = laidL := by kernel_rfl
theorem laid_same3 : Rows.escapeAllRow.laid = laidL := by kernel_rfl
theorem laid_same4 : Rows.escapeCutRow.laid = laidL := by kernel_rfl
theorem laidL_at : laidL[1]? = some (nTb, .agg (lastT.map rowData)) := by kernel_rfl
theorem lastT_len : lastT.length = 13 := by decide

theorem rows_of {W : World} {fuel : Nat} {cs : List Value} {p : List MemPlace} (h : DataW.trod (fun _ => ()) Tryd.prog W 0 (fun _ => true) false fuel 62 cs = some (.agg (lastT.map rowData), p)) :
    ∀ (i : Nat) (l : List Int), lastT[i]? = some l → cs[i]? = some (Value.string (str l)) := by
  cases fuel with
  | zero => simp [DataW.trod] at h
  | succ fuel =>
    simp only [DataW.trod, Tryd.underlying62, c9, c49] at h
    split at h
    · rename_i hl
      obtain ⟨xs, hm, hx⟩ := Option.map_eq_some_iff.1 h
      have hxs : xs.map (·.1) = lastT.map rowData := by
        have := congrArg Prod.fst hx
        simpa using this
      intro i s hs
      have hi : i < 13 := by rw [← lastT_len]; exact (List.getElem?_eq_some_iff.1 hs).1
      obtain ⟨b, hb, hf⟩ := Lib.mapM_at hm i i (by simp [hi])
      have h2 : (xs.map (·.1))[i]? = some b.1 := by simp [hb]
      rw [hxs, List.getElem?_map, hs] at h2
      have e : b = (rowData s, b.2) := by
        have := Option.some.inj h2
        exact Prod.ext this.symm rfl
      rw [e] at hf
      obtain ⟨S, h3, h4, _⟩ := DataW.trod_string Tryd.underlying9 hf
      have h5 : bs s = S.data.toList := by
        have := congrArg Prod.fst h4
        simpa [rowData] using this
      have h6 : S = str s := by
        obtain ⟨d⟩ := S
        simp only [str, h5]
      have h7 := congrArg (·[0]?) h3
      simp only [Nat.mul_one, List.getElem?_take, List.getElem?_drop, Nat.add_zero, h6] at h7
      simpa using h7
    · cases h

theorem tb_of {W : World} (h : laidMetH Tryd.prog laidL W) : Tb W := by
  rw [MakeChecks.laidMetH_plain _ _ _ (by kernel_rfl)] at h
  obtain ⟨g, t, cs, fuel, p, hg, ht, hvar, hd⟩ := Lib.laidMet.reads h (List.mem_of_getElem? laidL_at)
  obtain rfl := Option.some.inj (gTb.symm.trans hg)
  obtain rfl := Option.some.inj (tTb.symm.trans ht)
  have hR := rows_of hd
  intro k l hl
  rw [World.var?_cell gTb hvar k, ← Array.getElem?_toList]
  exact hR k l hl
end Go.Proofs.YthdggdjaicfapaaDoor.U
