/- What the listed variables give the walks of package cluster: the library's tables, the rows of East, the spans of marks. slices.Index, Equal, Delete, Clone, DeleteFunc and ContainsFunc at runes: the library structures laid over this program (no walk). All orders of marks in which those of one class stand as they do: one rising list; how it comes of the first marks of each class. Plain mathematics. The first marks of each class, gathered from the left. Plain mathematics. Rows of lists of numbers: a row of the call's own whose cells are slices, each a row of the call's own. A row that is sorted in place: what it holds, what an exchange makes of it, and that nothing else is changed. What compareClasses answers. slices.IndexFunc and slices.ContainsFunc at runes by a predicate that lays blocks at most; what cluster.firsts asks of a mark; slices.Sort of a row of one's own. What cluster.without answers: the marks without the first one of each that is told. slices.Index, Clone, Delete at runes. -/
import Derived.Test.YtipigfgnpfhdbaaGreatDoorRows
import Derived.Test.YtipigfgnpfhdbaaGreatDoorM7
import Derived.Test.YtipigfgnpfhdbaaGreatDoorM8
import Derived.WalkKit
import Derived.ProofKit
import Derived.Lay
import Derived.LaidOnce
import Derived.SevenTiedAt
import Derived.Lib.LaidTab
import Derived.Lib.LaidU8
import Derived.Shelf.Vars
import Derived.Stop.LaidErr
import Derived.Shelf.SlicesE.Index
import Derived.Shelf.SlicesE.Equal
import Derived.Shelf.SlicesE.Delete
import Derived.Shelf.SlicesE.Clone
import Derived.Shelf.SlicesE.IndexFunc
import Derived.Shelf.SlicesE.DeleteFunc
import Derived.Test.YtipigfgnpfhdbaaGreatDoorProg
import Derived.KernelRfl
import Derived.Shelf.SlSortCmp.QuietGrown
import Derived.BigRegion
import Derived.Test.YtipigfgnpfhdbaaGreatDoorM5
import Derived.BigQuiet
namespace Go.Proofs.YtipigfgnpfhdbaaGreatDoor.K
open Go.ChangeShapes Go.WideShapes Go.ChangeAt Go.RowKit Go.Shelf U
set_option linter.unusedVariables false

def laidL : List (String × DataW Unit) := Rows.clusterOrdersRow.laid
theorem laid_same0 : Rows.clusterOrdersRow.laid = laidL := rfl
def nSp : String := (Rows.clusterOrdersRow.named).getD 9 ""
def nFst : String := (Rows.clusterOrdersRow.named).getD 6 ""
def nAcc : String := (Rows.clusterOrdersRow.named).getD 7 ""
def nWh : String := (Rows.clusterOrdersRow.named).getD 10 ""
def nRw : String := (Rows.clusterOrdersRow.named).getD 11 ""
def nCl : String := (Rows.clusterOrdersRow.named).getD 5 ""
theorem mem_at {α : Type} {l : List α} {i : Nat} {x : α} (h : l[i]? = some x) : x ∈ l := List.mem_of_getElem? h
theorem lSp : laidL[8]? = some (nSp, Lib.tabData .u8 Lib.asciiSpaceTab) := by kernel_rfl
theorem lFst : laidL[10]? = some (nFst, Lib.firstData) := by kernel_rfl
theorem lAcc : laidL[3]? = some (nAcc, Lib.acceptData) := by kernel_rfl
theorem lWh : laidL[7]? = some (nWh, Lib.whiteData) := by kernel_rfl
theorem gSp : Tryz.prog.globalNamed nSp = some 3 := by kernel_rfl
theorem tSp : (Tryz.prog.globals[3]?).map (·.type) = some 164 := by kernel_rfl
theorem c5 : Tryz.prog.cellsOf 5 = 1 := by kernel_rfl
theorem c256 : Tryz.prog.cellsOf 164 = 256 := by kernel_rfl

theorem tz_of {W : World} (h : laidMetH Tryz.prog laidL W) (hs : W.ShapedOpen Tryz.prog) : Tz W := by
  rw [MakeChecks.laidMetH_plain _ _ _ (by kernel_rfl)] at h
  refine ⟨?_, ?_, ?_, ?_⟩
  · obtain ⟨g, t, cs, fuel, p, hg, hty, hvar, hd⟩ := Lib.laidMet.reads h (mem_at lSp)
    obtain rfl := Option.some.inj (gSp.symm.trans hg)
    obtain rfl := Option.some.inj (tSp.symm.trans hty)
    have hcs := Lib.cells_of_tab Tryz.underlying164 Tryz.underlying5 c5 c256 hd
    have e : cs = (Lib.asciiSpaceTab.map fun z => Value.int .u8 z).toArray := by
      rw [← hcs]
    exact hvar.trans (by rw [e])
  · exact utf8Tabs_of_reads (ρ := lays197_ren) { lays197 with } ⟨by kernel_rfl, by kernel_rfl, by kernel_rfl, by kernel_rfl, by kernel_rfl, by kernel_rfl, by kernel_rfl⟩ (Lib.laidMet.reads h (mem_at lFst)) (Lib.laidMet.reads h (mem_at lAcc))
  · exact whiteTab_of_reads (ρ := lays199_ren) { lays199 with } ⟨by kernel_rfl, by kernel_rfl, by kernel_rfl, by kernel_rfl, by kernel_rfl, by kernel_rfl, by kernel_rfl, by kernel_rfl⟩ (Lib.laidMet.reads h (mem_at lWh))
  · exact cell_of_shapedOpen_int (zero := #[.int .i64 0]) (t := 3) hs (Nat.le_of_ble_eq_true (by kernel_rfl)) (by kernel_rfl) rfl (by kernel_rfl) (by kernel_rfl) Tryz.underlying3

theorem gRw : Tryz.prog.globalNamed nRw = some 0 := by kernel_rfl
theorem tRw : (Tryz.prog.globals[0]?).map (·.type) = some 65 := by kernel_rfl
theorem c3 : Tryz.prog.cellsOf 3 = 1 := by kernel_rfl
theorem c8 : Tryz.prog.cellsOf 65 = 8 := by kernel_rfl
theorem lRw : laidL[9]? = some (nRw, Lib.tabData .i64 G.rowsL) := by kernel_rfl
theorem rw_of {W : World} (h : laidMetH Tryz.prog laidL W)   : G.Rw W := by
  rw [MakeChecks.laidMetH_plain _ _ _ (by kernel_rfl)] at h
  obtain ⟨g, t, cs, fuel, p, hg, hty, hvar, hd⟩ := Lib.laidMet.reads h (mem_at lRw)
  obtain rfl := Option.some.inj (gRw.symm.trans hg)
  obtain rfl := Option.some.inj (tRw.symm.trans hty)
  have hcs := Lib.cells_of_tab Tryz.underlying65 Tryz.underlying3 c3 c8 hd
  intro i z hz
  rw [World.var?_cell gRw hvar i, ← Array.getElem?_toList, hcs]
  simp [hz]
def spanData (s : F.Row) : DataW Unit := .agg [.lit (.int .i32 s.1), .lit (.int .i32 s.2.1), .lit (.int .u8 s.2.2.1), .lit (.int .u8 s.2.2.2)]
theorem gCl : Tryz.prog.globalNamed nCl = some 2 := by kernel_rfl
theorem tCl : (Tryz.prog.globals[2]?).map (·.type) = some 130 := by kernel_rfl
theorem c21k : Tryz.prog.cellsOf 21 = 1 := by kernel_rfl
theorem cSpan : Tryz.prog.cellsOf 129 = 4 := by kernel_rfl
theorem cSpans : Tryz.prog.cellsOf 130 = 160 := by kernel_rfl
theorem lCl : laidL[4]? = some (nCl, .agg (F.tab.map spanData)) := by kernel_rfl
theorem span_of {W : World} {fuel : Nat} {cs : List Value} {s : F.Row} {p : List MemPlace} (h : DataW.trod (fun _ => ()) Tryz.prog W 0 (fun _ => true) false fuel 129 cs = some (spanData s, p)) : cs = F.row4 s := by
  obtain ⟨xs, n, rfl, hx, hl, hxl, hf⟩ := DataW.trod_struct Tryz.underlying129 h
  have f0 := hf 0 _ rfl
  have f1 := hf 1 _ rfl
  have f2 := hf 2 _ rfl
  have f3 := hf 3 _ rfl
  clear hf h
  rw [cSpan] at hl
  obtain ⟨c0, c1, c2, c3, rfl⟩ : ∃ a b c d, cs = [a, b, c, d] := by
    rcases cs with _ | ⟨a, _ | ⟨b, _ | ⟨c, _ | ⟨d, _ | ⟨e, t⟩⟩⟩⟩⟩ <;> simp at hl
    exact ⟨a, b, c, d, rfl⟩
  obtain ⟨x0, x1, x2, x3, rfl⟩ : ∃ a b c d, xs = [a, b, c, d] := by
    have hxl : xs.length = 4 := hxl
    rcases xs with _ | ⟨a, _ | ⟨b, _ | ⟨c, _ | ⟨d, _ | ⟨e, t⟩⟩⟩⟩⟩ <;> simp at hxl
    exact ⟨a, b, c, d, rfl⟩
  have e0 : (spanData s) = .agg [x0.1, x1.1, x2.1, x3.1] := congrArg Prod.fst hx
  simp only [spanData, DataW.agg.injEq, List.cons.injEq, and_true] at e0
  obtain ⟨e0, e1, e2, e3⟩ := e0
  have g0 : DataW.trod (fun _ => ()) Tryz.prog W 0 (fun _ => true) false n 21 (([c0, c1, c2, c3].drop 0).take (Tryz.prog.cellsOf 21)) = some x0 := f0
  rw [c21k] at g0
  have k0 : DataW.trod (fun _ => ()) Tryz.prog W 0 (fun _ => true) false n 21 [c0] = some x0 := g0
  have g1 : DataW.trod (fun _ => ()) Tryz.prog W 0 (fun _ => true) false n 21 (([c0, c1, c2, c3].drop 1).take (Tryz.prog.cellsOf 21)) = some x1 := f1
  rw [c21k] at g1
  have k1 : DataW.trod (fun _ => ()) Tryz.prog W 0 (fun _ => true) false n 21 [c1] = some x1 := g1
  have g2 : DataW.trod (fun _ => ()) Tryz.prog W 0 (fun _ => true) false n 5 (([c0, c1, c2, c3].drop 2).take (Tryz.prog.cellsOf 5)) = some x2 := f2
  rw [c5] at g2
  have k2 : DataW.trod (fun _ => ()) Tryz.prog W 0 (fun _ => true) false n 5 [c2] = some x2 := g2
  have g3 : DataW.trod (fun _ => ()) Tryz.prog W 0 (fun _ => true) false n 5 (([c0, c1, c2, c3].drop 3).take (Tryz.prog.cellsOf 5)) = some x3 := f3
  rw [c5] at g3
  have k3 : DataW.trod (fun _ => ()) Tryz.prog W 0 (fun _ => true) false n 5 [c3] = some x3 := g3
  clear f0 f1 f2 f3 g0 g1 g2 g3
  obtain ⟨n0, h0, rfl, _⟩ := DataW.trod_int Tryz.underlying21 k0
  obtain ⟨n1, h1, rfl, _⟩ := DataW.trod_int Tryz.underlying21 k1
  obtain ⟨n2, h2, rfl, _⟩ := DataW.trod_int Tryz.underlying5 k2
  obtain ⟨n3, h3, rfl, _⟩ := DataW.trod_int Tryz.underlying5 k3
  simp only [DataW.lit.injEq, Lit.int.injEq, true_and] at e0 e1 e2 e3
  simp only [List.cons.injEq, and_true] at h0 h1 h2 h3
  simp [F.row4, h0, h1, h2, h3, e0, e1, e2, e3]
theorem spans_of {W : World} {fuel : Nat} {cs : List Value} {p : List MemPlace} (h : DataW.trod (fun _ => ()) Tryz.prog W 0 (fun _ => true) false fuel 130 cs = some (.agg (F.tab.map spanData), p)) :
    ∀ i s, F.tab[i]? = some s → (cs.drop (i * 4)).take 4 = F.row4 s := by
  cases fuel with
  | zero => simp [DataW.trod] at h
  | succ fuel =>
    simp only [DataW.trod, Tryz.underlying130, cSpan, cSpans] at h
    split at h
    · obtain ⟨xs, hm, hx⟩ := Option.map_eq_some_iff.1 h
      have hxs : xs.map (·.1) = F.tab.map spanData := by
        have := congrArg Prod.fst hx
        simpa using this
      intro i s hs
      have hi : i < 40 := by rw [← F.tab_len]; exact (List.getElem?_eq_some_iff.1 hs).1
      obtain ⟨b, hb, hf⟩ := Lib.mapM_at hm i i (by simp [hi])
      have h2 : (xs.map (·.1))[i]? = some b.1 := by simp [hb]
      rw [hxs, List.getElem?_map, hs] at h2
      have e : b = (spanData s, b.2) := by
        have := Option.some.inj h2
        exact Prod.ext this.symm rfl
      rw [e] at hf
      exact span_of hf
    · cases h
theorem sp_of {W : World} (h : laidMetH Tryz.prog laidL W) : F.Sp W := by
  rw [MakeChecks.laidMetH_plain _ _ _ (by kernel_rfl)] at h
  obtain ⟨g, t, cs, fuel, p, hg, ht, hvar, hd⟩ := Lib.laidMet.reads h (List.mem_of_getElem? lCl)
  obtain rfl := Option.some.inj (gCl.symm.trans hg)
  obtain rfl := Option.some.inj (tCl.symm.trans ht)
  have hR := spans_of hd
  intro j v hv
  have hj : j < 160 := by
    have := (List.getElem?_eq_some_iff.1 hv).1
    rwa [show F.tabC.length = 160 by kernel_rfl] at this
  obtain ⟨s, hs⟩ := F.tab_at (i := j / 4) (by omega)
  have h1 := F.flat4 F.row4 (fun _ => rfl) F.tab (j / 4) s hs (j % 4) (by omega)
  rw [show j / 4 * 4 + j % 4 = j by omega] at h1
  have h2 := congrArg (·[j % 4]?) (hR (j / 4) s hs)
  simp only [List.getElem?_take, List.getElem?_drop, show j % 4 < 4 by omega, if_true, show j / 4 * 4 + j % 4 = j by omega] at h2
  have h3 := World.var?_cell gCl hvar j
  rw [Nat.zero_add, h3, ← Array.getElem?_toList, h2, ← h1]
  exact hv
theorem gk_of {W : World} (h : laidMetH Tryz.prog laidL W) (hs : W.ShapedOpen Tryz.prog) : G.Gk W ∧ F.Sp W := ⟨⟨tz_of h hs, rw_of h⟩, sp_of h⟩
end Go.Proofs.YtipigfgnpfhdbaaGreatDoor.K
namespace Go.Proofs.YtipigfgnpfhdbaaGreatDoor.K
open Go.Shelf Go.RowKit
set_option linter.unusedVariables false
def idxLay_ren : Go.Shelf.Ren := ⟨fun | 29 => 71 | n => n, fun | 22 => 22 | 23 => 21 | 3 => 3 | 0 => 0 | 4 => 4 | n => n, fun | n => n⟩
theorem idxLay : Go.Proofs.SlLaysE.n29 Tryz.prog idxLay_ren := {
  mixed := by kernel_rfl
  f29 := ⟨Tryz.f71.name, by decide, Tryz.func71.trans (congrArg some (by kernel_rfl))⟩
  t0 := Tryz.underlying0
  a0 := Tryz.isAgg0
  z0 := Tryz.sizeOf0
  v0 := Tryz.zeroValue0
  t3 := Tryz.underlying3
  a3 := Tryz.isAgg3
  z3 := Tryz.sizeOf3
  v3 := Tryz.zeroValue3
  t4 := Tryz.underlying4
  a4 := Tryz.isAgg4
  z4 := Tryz.sizeOf4
  v4 := Tryz.zeroValue4
  t22 := Tryz.underlying22
  a22 := Tryz.isAgg22
  z22 := Tryz.sizeOf22
  v22 := Tryz.zeroValue22
  a23 := Tryz.isAgg21
  z23 := Tryz.sizeOf21 }
def eqLay_ren : Go.Shelf.Ren := ⟨fun | 33 => 65 | n => n, fun | 22 => 22 | 23 => 21 | 4 => 4 | 3 => 3 | 0 => 0 | n => n, fun | n => n⟩
theorem eqLay : Go.Proofs.SlLaysE.n33 Tryz.prog eqLay_ren := {
  mixed := by kernel_rfl
  f33 := ⟨Tryz.f65.name, by decide, Tryz.func65.trans (congrArg some (by kernel_rfl))⟩
  t0 := Tryz.underlying0
  a0 := Tryz.isAgg0
  z0 := Tryz.sizeOf0
  v0 := Tryz.zeroValue0
  t3 := Tryz.underlying3
  a3 := Tryz.isAgg3
  z3 := Tryz.sizeOf3
  v3 := Tryz.zeroValue3
  t4 := Tryz.underlying4
  a4 := Tryz.isAgg4
  z4 := Tryz.sizeOf4
  v4 := Tryz.zeroValue4
  t22 := Tryz.underlying22
  a22 := Tryz.isAgg22
  z22 := Tryz.sizeOf22
  v22 := Tryz.zeroValue22
  a23 := Tryz.isAgg21
  z23 := Tryz.sizeOf21 }
def delLay_ren : Go.Shelf.Ren := ⟨fun | 45 => 72 | n => n, fun | 22 => 22 | 23 => 21 | 3 => 3 | 4 => 4 | 0 => 0 | n => n, fun | n => n⟩
theorem delLay : Go.Proofs.SlLaysE.n45 Tryz.prog delLay_ren := {
  mixed := by kernel_rfl
  f45 := ⟨Tryz.f72.name, by decide, Tryz.func72.trans (congrArg some (by kernel_rfl))⟩
  t0 := Tryz.underlying0
  a0 := Tryz.isAgg0
  z0 := Tryz.sizeOf0
  v0 := Tryz.zeroValue0
  t3 := Tryz.underlying3
  a3 := Tryz.isAgg3
  z3 := Tryz.sizeOf3
  v3 := Tryz.zeroValue3
  t4 := Tryz.underlying4
  a4 := Tryz.isAgg4
  z4 := Tryz.sizeOf4
  v4 := Tryz.zeroValue4
  t22 := Tryz.underlying22
  a22 := Tryz.isAgg22
  z22 := Tryz.sizeOf22
  v22 := Tryz.zeroValue22
  a23 := Tryz.isAgg21
  z23 := Tryz.sizeOf21 }
def cloneLay_ren : Go.Shelf.Ren := ⟨fun | 41 => 42 | n => n, fun | 22 => 22 | 23 => 21 | 4 => 4 | n => n, fun | n => n⟩
theorem cloneLay : Go.Proofs.SlLaysE0.n41 Tryz.prog cloneLay_ren := {
  mixed := by kernel_rfl
  f41 := ⟨Tryz.f42.name, by decide, Tryz.func42.trans (congrArg some (by kernel_rfl))⟩
  t4 := Tryz.underlying4
  a4 := Tryz.isAgg4
  z4 := Tryz.sizeOf4
  v4 := Tryz.zeroValue4
  t22 := Tryz.underlying22
  a22 := Tryz.isAgg22
  z22 := Tryz.sizeOf22
  v22 := Tryz.zeroValue22 }
def dfLay_ren : Go.Shelf.Ren := ⟨fun | 10 => 108 | 6 => 110 | n => n, fun | 22 => 22 | 23 => 21 | 25 => 27 | 3 => 3 | 4 => 4 | 0 => 0 | n => n, fun | n => n⟩
theorem dfLay : Go.Proofs.SlLaysH.n10 Tryz.prog dfLay_ren := {
  mixed := by kernel_rfl
  f6 := ⟨Tryz.f110.name, by decide, Tryz.func110.trans (congrArg some (by kernel_rfl))⟩
  f10 := ⟨Tryz.f108.name, by decide, Tryz.func108.trans (congrArg some (by kernel_rfl))⟩
  t0 := Tryz.underlying0
  a0 := Tryz.isAgg0
  z0 := Tryz.sizeOf0
  v0 := Tryz.zeroValue0
  t3 := Tryz.underlying3
  a3 := Tryz.isAgg3
  z3 := Tryz.sizeOf3
  v3 := Tryz.zeroValue3
  t4 := Tryz.underlying4
  a4 := Tryz.isAgg4
  z4 := Tryz.sizeOf4
  v4 := Tryz.zeroValue4
  t22 := Tryz.underlying22
  a22 := Tryz.isAgg22
  z22 := Tryz.sizeOf22
  v22 := Tryz.zeroValue22
  a23 := Tryz.isAgg21
  z23 := Tryz.sizeOf21
  t25 := Tryz.underlying27
  a25 := Tryz.isAgg27
  z25 := Tryz.sizeOf27
  v25 := Tryz.zeroValue27 }
def cfLay_ren : Go.Shelf.Ren := ⟨fun | 8 => 69 | 6 => 110 | n => n, fun | 22 => 22 | 23 => 21 | 25 => 27 | 4 => 4 | 3 => 3 | 0 => 0 | n => n, fun | n => n⟩
theorem cfLay : Go.Proofs.SlLaysH.n8 Tryz.prog cfLay_ren := {
  mixed := by kernel_rfl
  f6 := ⟨Tryz.f110.name, by decide, Tryz.func110.trans (congrArg some (by kernel_rfl))⟩
  f8 := ⟨Tryz.f69.name, by decide, Tryz.func69.trans (congrArg some (by kernel_rfl))⟩
  t0 := Tryz.underlying0
  a0 := Tryz.isAgg0
  z0 := Tryz.sizeOf0
  v0 := Tryz.zeroValue0
  t3 := Tryz.underlying3
  a3 := Tryz.isAgg3
  z3 := Tryz.sizeOf3
  v3 := Tryz.zeroValue3
  t4 := Tryz.underlying4
  a4 := Tryz.isAgg4
  z4 := Tryz.sizeOf4
  v4 := Tryz.zeroValue4
  t22 := Tryz.underlying22
  a22 := Tryz.isAgg22
  z22 := Tryz.sizeOf22
  v22 := Tryz.zeroValue22
  a23 := Tryz.isAgg21
  z23 := Tryz.sizeOf21
  t25 := Tryz.underlying27
  a25 := Tryz.isAgg27
  z25 := Tryz.sizeOf27
  v25 := Tryz.zeroValue27 }
end Go.Proofs.YtipigfgnpfhdbaaGreatDoor.K
namespace Go.Proofs.YtipigfgnpfhdbaaGreatDoor.K
set_option linter.unusedVariables false

section
variable (cls : Int → Int)
/-- Those of one class. -/
abbrev ofC (c : Int) (l : List Int) : List Int := l.filter fun x => cls x == c
/-- Of each class the same ones, in the same order. -/
def Keeps (o rest : List Int) : Prop := ∀ c, ofC cls c o = ofC cls c rest
/-- The first one of its class. -/
def FirstOf (m : Int) (rest : List Int) : Prop := (ofC cls (cls m) rest).head? = some m
variable {cls}
theorem Keeps.refl (l : List Int) : Keeps cls l l := fun _ => rfl
theorem Keeps.symm {a b : List Int} (h : Keeps cls a b) : Keeps cls b a := fun c => (h c).symm
theorem Keeps.trans {a b c : List Int} (h : Keeps cls a b) (k : Keeps cls b c) : Keeps cls a c := fun d => (h d).trans (k d)
theorem Keeps.mem {a b : List Int} (h : Keeps cls a b) {x : Int} : x ∈ a ↔ x ∈ b := by
  have e := h (cls x)
  have h1 : x ∈ a ↔ x ∈ ofC cls (cls x) a := by simp [ofC]
  have h2 : x ∈ b ↔ x ∈ ofC cls (cls x) b := by simp [ofC]
  rw [h1, h2, e]
theorem Keeps.nil {o : List Int} (h : Keeps cls o []) : o = [] := by
  rw [List.eq_nil_iff_forall_not_mem]
  intro x hx
  exact absurd (h.mem.1 hx) (by simp)
theorem Keeps.count {a b : List Int} (h : Keeps cls a b) (x : Int) : a.count x = b.count x := by
  have e := h (cls x)
  have h1 : ∀ l : List Int, l.count x = (ofC cls (cls x) l).count x := fun l => (List.count_filter (by simp)).symm
  rw [h1 a, h1 b, e]
theorem Keeps.perm {a b : List Int} (h : Keeps cls a b) : a.Perm b := List.perm_iff_count.2 h.count
theorem Keeps.len {a b : List Int} (h : Keeps cls a b) : a.length = b.length := h.perm.length_eq
theorem FirstOf.mem {m : Int} {rest : List Int} (h : FirstOf cls m rest) : m ∈ rest := by
  have : m ∈ ofC cls (cls m) rest := List.mem_of_mem_head? h
  exact (List.mem_filter.1 this).1
theorem erase_of {m c : Int} {l : List Int} : ofC cls c (l.erase m) = (ofC cls c l).erase m := List.erase_filter.symm
/-- What begins with m keeps the order just if m is the first one of its class, and what is behind it keeps the order of the others. -/
theorem keeps_cons {m : Int} {o rest : List Int} : Keeps cls (m :: o) rest ↔ FirstOf cls m rest ∧ Keeps cls o (rest.erase m) := by
  constructor
  · intro h
    refine ⟨?_, fun c => ?_⟩
    · unfold FirstOf
      rw [← h (cls m)]
      simp [ofC]
    · rw [erase_of, ← h c]
      by_cases e : cls m = c
      · simp [ofC, e]
      · have : m ∉ ofC cls c o := by simp [ofC, e]
        rw [show ofC cls c (m :: o) = ofC cls c o by simp [ofC, e], List.erase_of_not_mem this]
  · rintro ⟨h1, h2⟩ c
    have h3 := h2 c
    rw [erase_of] at h3
    by_cases e : cls m = c
    · subst e
      unfold FirstOf at h1
      cases hf : ofC cls (cls m) rest with
      | nil => rw [hf] at h1; cases h1
      | cons y t =>
        rw [hf] at h1 h3
        simp only [List.head?_cons, Option.some.injEq] at h1
        subst h1
        rw [List.erase_cons_head] at h3
        rw [← h3]
        simp [ofC]
    · have : m ∉ ofC cls c rest := by simp [ofC, e]
      rw [List.erase_of_not_mem this] at h3
      rw [← h3]
      simp [ofC, e]
theorem firstOf_class {m n : Int} {rest : List Int} (h : FirstOf cls m rest) (k : FirstOf cls n rest) (e : cls m = cls n) : m = n := by
  unfold FirstOf at h k
  rw [e] at h
  rw [h] at k
  exact Option.some.inj k

/-! Lists that rise, one behind the other. -/
/-- Of two lists the lesser one, as the reference tells: at the first place where they differ. -/
def lessL : List Int → List Int → Bool
  | a :: l, b :: m => if a = b then lessL l m else decide (a < b)
  | _, _ => false
theorem lessL_irrefl : ∀ l : List Int, lessL l l = false
  | [] => rfl
  | a :: l => by simp [lessL, lessL_irrefl l]
theorem lessL_asymm : ∀ {a b : List Int}, lessL a b = true → lessL b a = false
  | [], _, h => by cases h
  | _ :: _, [], h => by cases h
  | a :: l, b :: m, h => by
    unfold lessL at h ⊢
    by_cases e : a = b
    · subst e
      simp only [if_true] at h ⊢
      exact lessL_asymm h
    · rw [if_neg e] at h
      rw [if_neg (Ne.symm e)]
      simp only [decide_eq_true_eq] at h
      simp
      omega
theorem lessL_total : ∀ {a b : List Int}, a.length = b.length → lessL a b = false → lessL b a = false → a = b
  | [], [], _, _, _ => rfl
  | [], _ :: _, h, _, _ => by cases h
  | _ :: _, [], h, _, _ => by cases h
  | a :: l, b :: m, hl, h, k => by
    unfold lessL at h k
    by_cases e : a = b
    · subst e
      simp only [if_true] at h k
      rw [lessL_total (by simpa using hl) h k]
    · rw [if_neg e] at h
      rw [if_neg (Ne.symm e)] at k
      simp only [decide_eq_false_iff_not] at h k
      omega
/-- The list of all orders of rest, rising. -/
def IsOrders (cls : Int → Int) (rest : List Int) (L : List (List Int)) : Prop := L.Pairwise (fun a b => lessL a b = true) ∧ ∀ o, o ∈ L ↔ Keeps cls o rest
theorem pw_unique {α : Type} {r : α → α → Prop} (hi : ∀ a, ¬ r a a) (ha : ∀ a b, r a b → ¬ r b a) : ∀ {l m : List α}, l.Pairwise r → m.Pairwise r → (∀ x, x ∈ l ↔ x ∈ m) → l = m
  | [], [], _, _, _ => rfl
  | [], b :: m, _, _, h => absurd ((h b).2 (by simp)) (by simp)
  | a :: l, [], _, _, h => absurd ((h a).1 (by simp)) (by simp)
  | a :: l, b :: m, hl, hm, h => by
    have h1 := List.pairwise_cons.1 hl
    have h2 := List.pairwise_cons.1 hm
    have e : a = b := by
      refine Classical.byContradiction fun hne => ?_
      have ha1 : a ∈ m := by
        rcases List.mem_cons.1 ((h a).1 (by simp)) with e | e
        · exact absurd e hne
        · exact e
      have hb1 : b ∈ l := by
        rcases List.mem_cons.1 ((h b).2 (by simp)) with e | e
        · exact absurd e.symm hne
        · exact e
      exact ha _ _ (h1.1 b hb1) (h2.1 a ha1)
    subst e
    have e2 : l = m := pw_unique hi ha h1.2 h2.2 fun x => by
      constructor
      · intro hx
        rcases List.mem_cons.1 ((h x).1 (List.mem_cons_of_mem _ hx)) with e | e
        · subst e; exact absurd (h1.1 x hx) (hi x)
        · exact e
      · intro hx
        rcases List.mem_cons.1 ((h x).2 (List.mem_cons_of_mem _ hx)) with e | e
        · subst e; exact absurd (h2.1 x hx) (hi x)
        · exact e
    rw [e2]
theorem IsOrders.unique {rest : List Int} {L M : List (List Int)} (h : IsOrders cls rest L) (k : IsOrders cls rest M) : L = M :=
  pw_unique (fun a h => by rw [lessL_irrefl] at h; cases h) (fun a b h k => by rw [lessL_asymm h] at k; cases k) h.1 k.1 fun o => (h.2 o).trans (k.2 o).symm
theorem orders_nil : IsOrders cls [] [[]] := by
  refine ⟨by simp, fun o => ?_⟩
  constructor
  · intro h
    have : o = [] := by simpa using h
    subst this
    exact Keeps.refl _
  · intro h
    rw [h.nil]
    simp
/-- All that begins with m. -/
theorem mem_pre {m : Int} {Q : List (List Int)} {o : List Int} : o ∈ Q.map (m :: ·) ↔ ∃ p, p ∈ Q ∧ o = m :: p := by
  rw [List.mem_map]
  constructor
  · rintro ⟨p, hp, rfl⟩; exact ⟨p, hp, rfl⟩
  · rintro ⟨p, hp, rfl⟩; exact ⟨p, hp, rfl⟩
/-- THE PROGRAM's WAY: the first ones of all classes, rising; behind each the orders of the others. -/
theorem orders_step {rest : List Int} (hne : rest ≠ []) {F : List Int} {Q : Int → List (List Int)} (hF : F.Pairwise (· < ·)) (hm : ∀ m, m ∈ F ↔ FirstOf cls m rest) (hQ : ∀ m ∈ F, IsOrders cls (rest.erase m) (Q m)) :
    IsOrders cls rest (F.flatMap fun m => (Q m).map (m :: ·)) := by
  refine ⟨?_, fun o => ?_⟩
  · clear hm
    induction F with
    | nil => simp
    | cons m F ih =>
      have h1 := List.pairwise_cons.1 hF
      rw [List.flatMap_cons, List.pairwise_append]
      refine ⟨?_, ih h1.2 (fun x hx => hQ x (List.mem_cons_of_mem _ hx)), fun a ha b hb => ?_⟩
      · rw [List.pairwise_map]
        exact (hQ m (by simp)).1.imp fun h => by simp [lessL, h]
      · obtain ⟨p, hp, rfl⟩ := mem_pre.1 ha
        obtain ⟨n, hn, hb⟩ := List.mem_flatMap.1 hb
        obtain ⟨q, hq, rfl⟩ := mem_pre.1 hb
        have := h1.1 n hn
        unfold lessL
        rw [if_neg (by omega)]
        simpa using this
  · constructor
    · intro h
      obtain ⟨m, hmF, hb⟩ := List.mem_flatMap.1 h
      obtain ⟨p, hp, rfl⟩ := mem_pre.1 hb
      exact keeps_cons.2 ⟨(hm m).1 hmF, ((hQ m hmF).2 p).1 hp⟩
    · intro h
      cases o with
      | nil => exact absurd h.symm.nil hne
      | cons m p =>
        obtain ⟨h1, h2⟩ := keeps_cons.1 h
        have hmF := (hm m).2 h1
        exact List.mem_flatMap.2 ⟨m, hmF, mem_pre.2 ⟨p, ((hQ m hmF).2 p).2 h2, rfl⟩⟩
/-- THE REFERENCE's WAY: the same pieces in any order of the first ones, sorted. -/
theorem orders_sorted {rest : List Int} (hne : rest ≠ []) {F : List Int} {Q : Int → List (List Int)} (hF : F.Nodup) (hm : ∀ m, m ∈ F ↔ FirstOf cls m rest) (hQ : ∀ m ∈ F, IsOrders cls (rest.erase m) (Q m)) {L : List (List Int)}
    (hp : L.Perm (F.flatMap fun m => (Q m).map (m :: ·))) (hs : L.Pairwise fun a b => lessL b a = false) : IsOrders cls rest L := by
  have hmem : ∀ o, o ∈ L ↔ Keeps cls o rest := fun o => by
    rw [hp.mem_iff]
    constructor
    · intro h
      obtain ⟨m, hmF, hb⟩ := List.mem_flatMap.1 h
      obtain ⟨p, hp, rfl⟩ := mem_pre.1 hb
      exact keeps_cons.2 ⟨(hm m).1 hmF, ((hQ m hmF).2 p).1 hp⟩
    · intro h
      cases o with
      | nil => exact absurd h.symm.nil hne
      | cons m p =>
        obtain ⟨h1, h2⟩ := keeps_cons.1 h
        have hmF := (hm m).2 h1
        exact List.mem_flatMap.2 ⟨m, hmF, mem_pre.2 ⟨p, ((hQ m hmF).2 p).2 h2, rfl⟩⟩
  have hnd : (F.flatMap fun m => (Q m).map (m :: ·)).Nodup := by
    clear hm hp hs hmem
    induction F with
    | nil => simp
    | cons m F ih =>
      have h1 := List.nodup_cons.1 hF
      rw [List.flatMap_cons, List.nodup_append]
      refine ⟨?_, ih h1.2 (fun x hx => hQ x (List.mem_cons_of_mem _ hx)), fun a ha b hb e => ?_⟩
      · rw [List.nodup_iff_pairwise_ne, List.pairwise_map]
        exact (hQ m (by simp)).1.imp fun h e => by
          have := List.cons.inj e
          rw [this.2, lessL_irrefl] at h
          cases h
      · obtain ⟨p, hp, rfl⟩ := mem_pre.1 ha
        obtain ⟨n, hn, hb⟩ := List.mem_flatMap.1 hb
        obtain ⟨q, hq, rfl⟩ := mem_pre.1 hb
        have := (List.cons.inj e).1
        subst this
        exact h1.1 hn
  have hnl : L.Nodup := hp.nodup_iff.2 hnd
  refine ⟨?_, hmem⟩
  rw [List.nodup_iff_pairwise_ne] at hnl
  refine (hs.and hnl).imp_of_mem ?_
  rintro a b ha hb ⟨h1, h2⟩
  cases hab : lessL a b with
  | true => rfl
  | false => exact absurd (lessL_total (((hmem a).1 ha).len.trans ((hmem b).1 hb).len.symm) hab h1) h2

/-! By classes. -/
/-- Sorted by classes there is but one list that keeps the order within each. -/
theorem sorted_unique : ∀ {a b : List Int}, a.Pairwise (fun x y => cls x ≤ cls y) → b.Pairwise (fun x y => cls x ≤ cls y) → Keeps cls a b → a = b
  | [], b, _, _, h => h.symm.nil.symm
  | x :: a, b, ha, hb, h => by
    obtain ⟨h1, h2⟩ := keeps_cons.1 h
    have hxb := h1.mem
    cases b with
    | nil => cases hxb
    | cons y b =>
      have hyx : cls y ≤ cls x := by
        rcases List.mem_cons.1 hxb with e | e
        · rw [e]; exact Int.le_refl _
        · exact (List.pairwise_cons.1 hb).1 x e
      have hya : y ∈ x :: a := h.mem.2 (by simp)
      have hxy : cls x ≤ cls y := by
        rcases List.mem_cons.1 hya with e | e
        · rw [e]; exact Int.le_refl _
        · exact (List.pairwise_cons.1 ha).1 y e
      have e : y = x := by
        unfold FirstOf at h1
        have : cls y = cls x := by omega
        simpa [ofC, this] using h1
      subst e
      rw [List.erase_cons_head] at h2
      rw [sorted_unique (List.pairwise_cons.1 ha).2 (List.pairwise_cons.1 hb).2 h2]
end
end Go.Proofs.YtipigfgnpfhdbaaGreatDoor.K
namespace Go.Proofs.YtipigfgnpfhdbaaGreatDoor.K
set_option linter.unusedVariables false

section
variable (cls : Int → Int)
/-- One mark more. -/
def addF (F : List Int) (m : Int) : List Int := if F.any (fun f => cls f == cls m) then F else F ++ [m]
def pf (l : List Int) : List Int := l.foldl (addF cls) []
variable {cls}
theorem pf_snoc (l : List Int) (m : Int) : pf cls (l ++ [m]) = addF cls (pf cls l) m := by simp [pf]
theorem ofC_snoc {c m : Int} {l : List Int} : ofC cls c (l ++ [m]) = ofC cls c l ++ (if cls m = c then [m] else []) := by
  by_cases h : cls m = c <;> simp [ofC, h]
theorem firstOf_snoc {x m : Int} {l : List Int} : FirstOf cls x (l ++ [m]) ↔ FirstOf cls x l ∨ (ofC cls (cls x) l = [] ∧ x = m) := by
  unfold FirstOf
  rw [ofC_snoc]
  cases h : ofC cls (cls x) l with
  | nil =>
    by_cases e : cls m = cls x
    · rw [if_pos e]
      simp [eq_comm]
    · rw [if_neg e]
      simp
      intro e2
      exact e (by rw [e2])
  | cons y t => simp
theorem firstOf_ex {c : Int} {l : List Int} : (∃ x, FirstOf cls x l ∧ cls x = c) ↔ ofC cls c l ≠ [] := by
  constructor
  · rintro ⟨x, h, rfl⟩ e
    unfold FirstOf at h
    rw [e] at h
    cases h
  · intro h
    cases e : ofC cls c l with
    | nil => exact absurd e h
    | cons y t =>
      have hy : y ∈ ofC cls c l := by rw [e]; simp
      have hc : cls y = c := by simpa [ofC] using (List.mem_filter.1 hy).2
      exact ⟨y, by unfold FirstOf; rw [hc, e]; rfl, hc⟩
theorem pf_mem (n : Nat) : ∀ l : List Int, l.length = n → ∀ x, x ∈ pf cls l ↔ FirstOf cls x l := by
  induction n with
  | zero =>
    intro l hl x
    obtain rfl := List.eq_nil_of_length_eq_zero hl
    simp [pf, FirstOf, ofC]
  | succ n ih =>
    intro l hl x
    rcases List.eq_nil_or_concat l with rfl | ⟨t, m, rfl⟩
    · simp at hl
    rw [List.concat_eq_append] at hl ⊢
    have ht := ih t (by simpa using hl)
    have hany : (pf cls t).any (fun f => cls f == cls m) = true ↔ ofC cls (cls m) t ≠ [] := by
      rw [← firstOf_ex, List.any_eq_true]
      constructor
      · rintro ⟨y, hy, h⟩; exact ⟨y, (ht y).1 hy, by simpa using h⟩
      · rintro ⟨y, hy, h⟩; exact ⟨y, (ht y).2 hy, by simpa using h⟩
    rw [pf_snoc, firstOf_snoc, addF]
    by_cases h : (pf cls t).any (fun f => cls f == cls m) = true
    · rw [if_pos h, ht x]
      constructor
      · exact .inl
      · rintro (h2 | ⟨h2, rfl⟩)
        · exact h2
        · exact absurd h2 (hany.1 h)
    · rw [if_neg h, List.mem_append, ht x, List.mem_singleton]
      constructor
      · rintro (h2 | rfl)
        · exact .inl h2
        · exact .inr ⟨Classical.byContradiction fun h3 => h (hany.2 h3), rfl⟩
      · rintro (h2 | ⟨_, rfl⟩)
        · exact .inl h2
        · exact .inr rfl
theorem pf_nodup (n : Nat) : ∀ l : List Int, l.length = n → (pf cls l).Nodup := by
  induction n with
  | zero =>
    intro l hl
    obtain rfl := List.eq_nil_of_length_eq_zero hl
    simp [pf]
  | succ n ih =>
    intro l hl
    rcases List.eq_nil_or_concat l with rfl | ⟨t, m, rfl⟩
    · simp at hl
    rw [List.concat_eq_append] at hl ⊢
    have ht := ih t (by simpa using hl)
    rw [pf_snoc, addF]
    split
    · exact ht
    · rename_i h
      rw [List.nodup_append]
      refine ⟨ht, by simp, fun a ha b hb e => ?_⟩
      simp at hb
      subst hb e
      exact h (List.any_eq_true.2 ⟨a, ha, by simp⟩)
theorem pf_len (n : Nat) : ∀ l : List Int, l.length = n → (pf cls l).length ≤ n := by
  induction n with
  | zero =>
    intro l hl
    obtain rfl := List.eq_nil_of_length_eq_zero hl
    simp [pf]
  | succ n ih =>
    intro l hl
    rcases List.eq_nil_or_concat l with rfl | ⟨t, m, rfl⟩
    · simp at hl
    rw [List.concat_eq_append] at hl ⊢
    have ht := ih t (by simpa using hl)
    rw [pf_snoc, addF]
    split
    · omega
    · rw [List.length_append, List.length_singleton]; omega
/-- Sorted, they rise. -/
theorem rises {F G : List Int} (h : F.Nodup) (hp : G.Perm F) (hs : G.Pairwise (· ≤ ·)) : G.Pairwise (· < ·) := by
  have hn := hp.nodup_iff.2 h
  rw [List.nodup_iff_pairwise_ne] at hn
  exact (hs.and hn).imp fun h => by
    have := h.1
    have := h.2
    omega
/-- How many orders there are, at most. -/
theorem orders_len {F : List Int} {Q : Int → List (List Int)} {a b : Nat} (hF : F.length ≤ a) (hQ : ∀ m ∈ F, (Q m).length ≤ b) : (F.flatMap fun m => (Q m).map (m :: ·)).length ≤ a * b := by
  refine Nat.le_trans ?_ (Nat.mul_le_mul_right b hF)
  clear hF
  induction F with
  | nil => simp
  | cons m F ih =>
    rw [List.flatMap_cons, List.length_append, List.length_map, List.length_cons, Nat.succ_mul]
    have h1 := hQ m (by simp)
    have h2 := ih fun x hx => hQ x (List.mem_cons_of_mem _ hx)
    omega
end
end Go.Proofs.YtipigfgnpfhdbaaGreatDoor.K
namespace Go.Proofs.YtipigfgnpfhdbaaGreatDoor.K
open Go.RowKit U F
set_option linter.unusedVariables false

/-- A row of lists of the call's own, each list in a row of the call's own. -/
def LOwn (w : World) (base : Nat) (v : Value) (L : List (List Int)) : Prop :=
  ∃ vs : List Value, w.ownsRow base 22 1 v L.length vs ∧ ∀ (i : Nat) (l : List Int), L[i]? = some l → ∃ u, vs[i]? = some u ∧ U.Own w base 21 .i32 u l
theorem LOwn.keep {w w' : World} {base : Nat} {v : Value} {L : List (List Int)} (h : LOwn w base v L) (hb : Bel w w') : LOwn w' base v L := by
  obtain ⟨vs, h1, h2⟩ := h
  exact ⟨vs, own_keep h1 hb, fun i l hl => by obtain ⟨u, hu, ho⟩ := h2 i l hl; exact ⟨u, hu, ho.keep hb⟩⟩
theorem LOwn.less {w : World} {base base' : Nat} {v : Value} {L : List (List Int)} (h : LOwn w base v L) (hb : base' ≤ base) : LOwn w base' v L := by
  obtain ⟨vs, h1, h2⟩ := h
  exact ⟨vs, own_less h1 hb, fun i l hl => by obtain ⟨u, hu, ho⟩ := h2 i l hl; exact ⟨u, hu, ho.less hb⟩⟩
theorem LOwn.nil (w : World) (base : Nat) : LOwn w base (.slice none 0 0) [] := ⟨[], World.ownsRow_nil _ _ _ _, fun i l h => by simp at h⟩
/-- A list's row is no row of lists. -/
theorem own_grown {w w' : World} {base : Nat} {row : Option Nat} {u : Value} {l : List Int} (h : U.Own w base 21 .i32 u l) (hg : w.grownBy w' row)
    (hr : ∀ k, row = some k → ∃ cur, w.heap[k]? = some (.cells cur 22 (0, 0))) : U.Own w' base 21 .i32 u l := by
  unfold U.Own at h ⊢
  refine ⟨h.1, ?_⟩
  rcases h.2 with h | ⟨g, cap, cur, hv, hbg, hgg, rest⟩
  · exact .inl h
  · refine .inr ⟨g, cap, cur, hv, hbg, ?_, rest⟩
    rw [hg.block g (Array.getElem?_eq_some_iff.1 hgg).1 (fun e => ?_)]
    · exact hgg
    · obtain ⟨c2, h2⟩ := hr g e.symm
      have h3 := Option.some.inj (h2.symm.trans hgg)
      injection h3 with _ h4 _
      exact absurd h4 (by decide)
theorem row_block {w : World} {base : Nat} {e : TypeId} {v : Value} {n : Nat} {xs : List Value} (h : w.ownsRow base e 1 v n xs) : ∀ k, v.ownBlock = some k → ∃ cur, w.heap[k]? = some (.cells cur e (0, 0)) := by
  intro k hk
  rcases h.2 with ⟨rfl, _⟩ | ⟨g, cap, cur, rfl, _, hg, _⟩
  · cases hk
  · cases hk
    exact ⟨cur, hg⟩
theorem infoL : (Tryz.prog.info? 22).map (fun i => (i.zero, i.size, i.bytes)) = some (some (.slice none 0 0), 1, 24) := by kernel_rfl
theorem own_one {w : World} {base : Nat} {u : Value} {l : List Int} (h : U.Own w base 21 .i32 u l) : u.oneCell' = true := by
  rcases h.2 with ⟨rfl, _⟩ | ⟨g, cap, cur, rfl, _⟩ <;> rfl

/-- One more list. -/
theorem run_append_l {w : World} {ty : TypeId} {base : Nat} {v u : Value} {L : List (List Int)} {l : List Int} (hown : LOwn w base v L) {g c : Nat} (hc : w.cell? ⟨g, 0, none⟩ = some u)
    (hu : U.Own w base 21 .i32 u l) (hn : L.length + 1 ≤ 1000000) (hbase : base ≤ w.heap.size) :
    ∃ v' w', (Builtin.append_ #[33, 33] ty #[v, .slice (some ⟨g, 0, none⟩) 1 c]).run Tryz.prog w = .ok v' w' ∧ LOwn w' base v' (L ++ [l]) ∧ Below base w w' ∧ w.grownBy w' v.ownBlock ∧ (v'.ownBlock = v.ownBlock ∨ v'.ownBlock = some w.heap.size) := by
  obtain ⟨i0, hi0, hz0, hz1, hz2⟩ := info_parts infoL
  obtain ⟨vs, h1, h2⟩ := hown
  obtain ⟨v', w', k1, k2, k3, _, k5⟩ := run_append_own_at (P := Tryz.prog) w base 33 ty 22 i0 _ 1 24 Tryz.underlying33 hi0 hz0 hz1 hz2 rfl (by omega) v _ _ h1 ⟨g, 0, none⟩ 1 c [u] (by simp)
    (fun j x hx => by
      have hj : j = 0 := by
        have := (List.getElem?_eq_some_iff.1 hx).1
        simp at this
        exact this
      subst hj
      simp at hx
      subst hx
      rw [addr_add, Nat.zero_add]; exact hc) (fun x hx => by simp at hx; subst hx; exact own_one hu) (by simp only [maxLen]; omega) (by omega) hbase
  have hlen : vs.length = L.length := by simpa using h1.1
  refine ⟨v', w', k1, ⟨vs ++ [u], ?_, fun i x hx => ?_⟩, (Below.refl _ _).grown k3 hbase fun g hg => (World.ownsRow.lt h1 g hg).1, k3, k5⟩
  · rw [List.length_append, List.length_singleton]
    exact k2
  · rcases Nat.lt_or_ge i L.length with hi | hi
    · rw [List.getElem?_append_left hi] at hx
      obtain ⟨z, hz, ho⟩ := h2 i x hx
      exact ⟨z, by rw [List.getElem?_append_left (by omega)]; exact hz, own_grown ho k3 (row_block h1)⟩
    · rw [List.getElem?_append_right hi] at hx
      have hi0 : i - L.length = 0 := by
        have := (List.getElem?_eq_some_iff.1 hx).1
        simp at this
        omega
      rw [hi0] at hx
      simp at hx
      subst hx
      exact ⟨u, by rw [List.getElem?_append_right (by omega), show i - vs.length = 0 by omega]; rfl, own_grown hu k3 (row_block h1)⟩
theorem wp_append_l {w : World} {o : Oper} {a : Act} {K : Act → World → Prop} {Q : Exit → Act → World → Prop} (s x : Operand)
    (ho : o.op = .call { callee := .builtin .append, args := #[s, x], argTypes := #[33, 33] })
    {base : Nat} {v u : Value} {L : List (List Int)} {l : List Int} (hown : LOwn w base v L) (hs : a.eval s = v) {g c : Nat} (hx : a.eval x = .slice (some ⟨g, 0, none⟩) 1 c) (hc : w.cell? ⟨g, 0, none⟩ = some u)
    (hu : U.Own w base 21 .i32 u l) (hn : L.length + 1 ≤ 1000000) (hbase : base ≤ w.heap.size)
    (h : ∀ v' w', LOwn w' base v' (L ++ [l]) → Below base w w' → w.grownBy w' v.ownBlock → (v'.ownBlock = v.ownBlock ∨ v'.ownBlock = some w.heap.size) → K (a.put o.dst v') w') : o.wp Tryz.prog a w K Q := by
  obtain ⟨v', w', hrun, h2, h3, h4, h5⟩ := run_append_l (ty := o.type) (c := c) hown hc hu hn hbase
  unfold Oper.wp execOp
  simp only [ho, resolve, invoke, builtin, Sem.run_bind, Sem.run_pure, Result.andThen_ok, List.map_toArray, List.map_cons, List.map_nil, hs, hx, hrun]
  exact h v' w' h2 h3 h4 h5
theorem wpl_append_l {w : World} {ops : Array Oper} {rest : List Oper} {o : Oper} {a : Act} {Q : Exit → Act → World → Prop} (hw : Region.wanted o (yielded ops a.tmps) = true) (s x : Operand)
    (ho : o.op = .call { callee := .builtin .append, args := #[s, x], argTypes := #[33, 33] })
    {base : Nat} {v u : Value} {L : List (List Int)} {l : List Int} (hown : LOwn w base v L) (hs : a.eval s = v) {g c : Nat} (hx : a.eval x = .slice (some ⟨g, 0, none⟩) 1 c) (hc : w.cell? ⟨g, 0, none⟩ = some u)
    (hu : U.Own w base 21 .i32 u l) (hn : L.length + 1 ≤ 1000000) (hbase : base ≤ w.heap.size)
    (h : ∀ v' w', LOwn w' base v' (L ++ [l]) → Below base w w' → w.grownBy w' v.ownBlock → (v'.ownBlock = v.ownBlock ∨ v'.ownBlock = some w.heap.size) → wpList Tryz.prog ops Q rest (a.put o.dst v') w') : wpList Tryz.prog ops Q (o :: rest) a w :=
  BigFrame.wpList_want hw fun _ hK => wp_append_l s x ho hown hs hx hc hu hn hbase fun v' w' h2 h3 h4 h5 => hK _ _ (h v' w' h2 h3 h4 h5)

/-- What grows elsewhere leaves it as it is. -/
theorem LOwn.grown {w w' : World} {base : Nat} {row : Option Nat} {u : Value} {L : List (List Int)} (h : LOwn w base u L) (hg : w.grownBy w' row)
    (hr : ∀ k, row = some k → ∃ cur, w.heap[k]? = some (.cells cur 22 (0, 0))) (hne : ∀ k, row = some k → u.ownBlock ≠ some k) : LOwn w' base u L := by
  obtain ⟨vs, h1, h2⟩ := h
  refine ⟨vs, ?_, fun i l hl => by obtain ⟨z, hz, ho⟩ := h2 i l hl; exact ⟨z, hz, own_grown ho hg hr⟩⟩
  refine ⟨h1.1, ?_⟩
  rcases h1.2 with h | ⟨g, cap, cur, rfl, hbg, hgg, rest⟩
  · exact .inl h
  · refine .inr ⟨g, cap, cur, rfl, hbg, ?_, rest⟩
    rw [hg.block g (Array.getElem?_eq_some_iff.1 hgg).1 (fun e => hne g e.symm rfl)]
    exact hgg
theorem LOwn.row {w : World} {base : Nat} {v : Value} {L : List (List Int)} (h : LOwn w base v L) : ∀ k, v.ownBlock = some k → ∃ cur, w.heap[k]? = some (.cells cur 22 (0, 0)) := by
  obtain ⟨vs, h1, _⟩ := h
  exact row_block h1
theorem LOwn.lt {w : World} {base : Nat} {v : Value} {L : List (List Int)} (h : LOwn w base v L) : ∀ k, v.ownBlock = some k → base ≤ k ∧ k < w.heap.size := by
  obtain ⟨vs, h1, _⟩ := h
  exact fun k hk => World.ownsRow.lt h1 k hk
/-- One list, in a block that was just made. -/
theorem LOwn.made (w : World) {base : Nat} {u : Value} {l : List Int} (h : U.Own w base 21 .i32 u l) (hb : base ≤ w.heap.size) :
    LOwn (w.alloc (.cells #[u] 22)) base (.slice (some ⟨w.heap.size, 0, none⟩) 1 1) [l] := by
  refine ⟨[u], ⟨by simp, .inr ⟨w.heap.size, 1, #[u], rfl, hb, heap_alloc_new w _, Nat.le_refl _, by simp only [maxLen]; omega, by simp, by simp⟩⟩, fun i x hx => ?_⟩
  have hi : i = 0 := by
    have := (List.getElem?_eq_some_iff.1 hx).1
    simp at this
    exact this
  subst hi
  simp at hx
  subst hx
  exact ⟨u, rfl, h.keep ((Bel.refl w).alloc _)⟩

/-- It reads as a slice of slices. -/
theorem LOwn.rd {w : World} {base : Nat} {v : Value} {L : List (List Int)} (h : LOwn w base v L) :
    ∃ A cap, v = .slice A L.length cap ∧ L.length ≤ cap ∧ (A = none → cap = 0) ∧ ∀ (i : Nat) (l : List Int), L[i]? = some l → ∃ g u, A = some ⟨g, 0, none⟩ ∧ w.cell? ⟨g, i, none⟩ = some u ∧ U.Own w base 21 .i32 u l := by
  obtain ⟨vs, h1, h2⟩ := h
  rcases h1.2 with ⟨rfl, h0⟩ | ⟨g, cap, cur, rfl, hb, hg, hc, hr⟩
  · refine ⟨none, 0, by rw [h0], by omega, fun _ => rfl, fun i l hl => ?_⟩
    have := (List.getElem?_eq_some_iff.1 hl).1
    omega
  · refine ⟨_, cap, rfl, hc, fun e => (by cases e), fun i l hl => ?_⟩
    obtain ⟨u, hu, ho⟩ := h2 i l hl
    refine ⟨g, u, rfl, ?_, ho⟩
    have := World.ownsRow.cells h1 (g := g) rfl i u hu
    rw [addr_add, Nat.zero_add] at this
    exact this
end Go.Proofs.YtipigfgnpfhdbaaGreatDoor.K
namespace Go.Proofs.YtipigfgnpfhdbaaGreatDoor.F
open Go.RowKit U
set_option linter.unusedVariables false

def cmpI (x y : Int) : Int := if x < y then -1 else if y < x then 1 else 0
theorem cmpI_neg {x y : Int} : cmpI x y < 0 ↔ x < y := by
  unfold cmpI
  by_cases h1 : x < y
  · rw [if_pos h1]; omega
  · rw [if_neg h1]
    by_cases h2 : y < x
    · rw [if_pos h2]; omega
    · rw [if_neg h2]; omega
theorem inan_is (x : Int) (w : World) : Calls Tryz.prog 92 #[.int .i64 x] w fun e w' => e = .returned (.bool false) ∧ w = w' := by
  go_enter Tryz.func92, Tryz.ntmps92
  go_wp2
  go_ret
  exact ⟨by first | rfl | (refine ret_bool ?_; simp), rfl⟩
theorem icompare_is (x y c : Int) (w : World) (hc : cmpI x y = c) : Calls Tryz.prog 54 #[.int .i64 x, .int .i64 y] w fun e w' => e = .returned (.int .i64 c) ∧ w = w' := by
  unfold cmpI at hc
  rcases Int.lt_trichotomy x y with h | rfl | h
  · rw [if_pos h] at hc
    subst hc
    go_enter Tryz.func54, Tryz.ntmps54
    go_wp2_with (go_at_call 92; refine (inan_is _ _).mono ?_; rintro e w' ⟨rfl, rfl⟩)
    go_ret
    exact ⟨rfl, rfl⟩
  · rw [if_neg (by omega), if_neg (by omega)] at hc
    subst hc
    go_enter Tryz.func54, Tryz.ntmps54
    go_wp2_with (go_at_call 92; refine (inan_is _ _).mono ?_; rintro e w' ⟨rfl, rfl⟩)
    go_ret
    exact ⟨rfl, rfl⟩
  · rw [if_neg (by omega), if_pos h] at hc
    subst hc
    go_enter Tryz.func54, Tryz.ntmps54
    go_wp2_with (go_at_call 92; refine (inan_is _ _).mono ?_; rintro e w' ⟨rfl, rfl⟩)
    go_ret
    exact ⟨rfl, rfl⟩
theorem comp_is (x y c : Int) (w : World) (h : Sp w) (hc : cmpI (cls x) (cls y) = c) : Calls Tryz.prog 104 #[.int .i32 x, .int .i32 y] w fun e w' => e = .returned (.int .i64 c) ∧ Gr w w' := by
  have H1 := Lib.hid (of_is x (cls x) w h rfl)
  have H2 := Lib.hid (fun w' (hg : Gr w w') => of_is y (cls y) w' (h.bel hg) rfl)
  generalize cls x = a at H1 hc
  generalize cls y = b at H2 hc
  have H3 := Lib.hid (fun w => icompare_is a b c w hc)
  clear h hc
  go_enter Tryz.func104, Tryz.ntmps104
  go_wp2_with fail
  with_reducible refine H1.out.mono ?_
  rintro e w1 ⟨rfl, h1⟩
  go_wp2_with fail
  with_reducible refine (H2.out _ h1).mono ?_
  rintro e w2 ⟨rfl, h2⟩
  go_wp2_with fail
  with_reducible refine (H3.out _).mono ?_
  rintro e w3 ⟨rfl, rfl⟩
  go_wp2
  go_ret
  exact ⟨rfl, h1.trans h2⟩
theorem enters_18 : ∀ (args : Array Value) (w : World), (callFunc 104 args).run Tryz.prog w = .ok (.enter 104 args) w := enters_of Tryz.func104 (by kernel_rfl) rfl
theorem mixed : Tryz.prog.follows .mixedOrders = true := by kernel_rfl

/-- The row holds these, and may be written. -/
def Lst (w : World) (g off : Nat) (l : List Int) : Prop := ∀ i x, l[i]? = some x → w.cell? ⟨g, off + i, none⟩ = some (.int .i32 x) ∧ w.frozen? ⟨g, off + i, none⟩ = false
/-- The row's block is the block it was, but for the row's n cells. -/
def Kp (w0 w : World) (g off n : Nat) : Prop := ∀ c e m, w0.heap[g]? = some (.cells c e m) → ∃ c', w.heap[g]? = some (.cells c' e m) ∧ c'.size = c.size ∧ ∀ k, (k < off ∨ off + n ≤ k) → c'[k]? = c[k]?
theorem Kp.refl (w : World) (g off n : Nat) : Kp w w g off n := fun c e m h => ⟨c, h, rfl, fun _ _ => rfl⟩
theorem Kp.by {w0 w w' : World} {g off n : Nat} (h : Kp w0 w g off n) (hg : g < w.heap.size) (hb : Bel w w') : Kp w0 w' g off n := fun c e m hc => by
  obtain ⟨c', h1, h2⟩ := h c e m hc
  exact ⟨c', by rw [hb.block g hg]; exact h1, h2⟩
theorem Kp.set {w0 w : World} {g off n i : Nat} (h : Kp w0 w g off n) (hi : i < n) (v : Value) : Kp w0 (w.setCell ⟨g, off + i, none⟩ v) g off n := fun c e m hc => by
  obtain ⟨c', h1, h2, h3⟩ := h c e m hc
  refine ⟨c'.setIfInBounds (off + i) v, by simp [World.setCell, Array.getElem?_modify, h1], by simpa using h2, fun k hk => ?_⟩
  rw [Array.getElem?_setIfInBounds, if_neg (by omega)]
  exact h3 k hk
/-- From w0 on nothing below base was changed; the row, in a block of its own, holds l; the table of spans lies. -/
def In (base : Nat) (w0 : World) (g off : Nat) (l : List Int) (w : World) : Prop := Below base w0 w ∧ Lst w g off l ∧ Sp w ∧ base ≤ g ∧ 2 < base ∧ base ≤ w0.heap.size ∧ g < w.heap.size ∧ Kp w0 w g off l.length

theorem Lst.bel {w w' : World} {g off : Nat} {l : List Int} (h : Lst w g off l) (hb : Bel w w') : Lst w' g off l := fun i x hx => by
  obtain ⟨h1, h2⟩ := h i x hx
  have hb' := cell_block h1
  exact ⟨(Below.cell hb (p := ⟨g, off + i, none⟩) hb').trans h1, (Below.frozen hb (p := ⟨g, off + i, none⟩) hb').trans h2⟩
theorem In.by {base : Nat} {w0 w w' : World} {g off : Nat} {l : List Int} (h : In base w0 g off l w) (hb : Bel w w') : In base w0 g off l w' := by
  obtain ⟨h1, h2, h3, h4, h5, h6, h7, h8⟩ := h
  exact ⟨h1.trans (Below.mono hb (Nat.le_trans h6 h1.size)), h2.bel hb, h3.by hb, h4, h5, h6, Nat.lt_of_lt_of_le h7 hb.size, h8.by h7 hb⟩
theorem In.gr {base : Nat} {w0 w w' : World} {g off : Nat} {l : List Int} (h : In base w0 g off l w) (hb : Gr w w') : In base w0 g off l w' := h.by hb.bel
theorem In.cell {base : Nat} {w0 w : World} {g off : Nat} {l : List Int} (h : In base w0 g off l w) {i : Nat} {x : Int} (hx : l[i]? = some x) : w.cell? ⟨g, off + i, none⟩ = some (.int .i32 x) := (h.2.1 i x hx).1
theorem In.free {base : Nat} {w0 w : World} {g off : Nat} {l : List Int} (h : In base w0 g off l w) {i : Nat} {x : Int} (hx : l[i]? = some x) : w.frozen? ⟨g, off + i, none⟩ = false := (h.2.1 i x hx).2
theorem In.cells {base : Nat} {w0 w : World} {g off : Nat} {l : List Int} (h : In base w0 g off l w) {i : Nat} {x : Int} (hx : l[i]? = some x) (n : Nat) (os : Array Obj) : (Sort.grow (w.drewN n) os).cell? ⟨g, off + i, none⟩ = some (.int .i32 x) :=
  (h.gr ⟨n, os, rfl⟩).cell hx
theorem In.comp {base : Nat} {w0 w : World} {g off : Nat} {l : List Int} (h : In base w0 g off l w) (x y c : Int) (hc : cmpI (cls x) (cls y) = c) (n : Nat) (os : Array Obj) :
    Calls Tryz.prog 104 #[.int .i32 x, .int .i32 y] (Sort.grow (w.drewN n) os) fun e w' => e = .returned (.int .i64 c) ∧ ∃ q os', w' = Sort.grow ((Sort.grow (w.drewN n) os).drewN q) os' :=
  comp_is x y c _ (h.2.2.1.bel ⟨n, os, rfl⟩) hc

/-- An exchange. -/
theorem In.swap {base : Nat} {w0 w : World} {g off : Nat} {l l' : List Int} {i j : Nat} {x y : Int} (h : In base w0 g off l w) (hx : l[i]? = some x) (hy : l[j]? = some y) (hij : i ≠ j)
    (hl : ∀ k, l'[k]? = if k = i then some y else if k = j then some x else l[k]?) :
    In base w0 g off l' ((w.setCell ⟨g, off + i, none⟩ (.int .i32 y)).setCell ⟨g, off + j, none⟩ (.int .i32 x)).drew := by
  have ci := h.cell hx
  have cj := h.cell hy
  have fi := h.free hx
  have fj := h.free hy
  obtain ⟨h1, h2, h3, h4, h5, h6, h7, h8⟩ := h
  have il : i < l.length := (List.getElem?_eq_some_iff.1 hx).1
  have jl : j < l.length := (List.getElem?_eq_some_iff.1 hy).1
  have hll : l'.length = l.length := by
    have e1 : l'[l.length]? = none := by rw [hl, if_neg (by omega), if_neg (by omega)]; simp
    have e2 : ∀ k, k < l.length → l'[k]? ≠ none := fun k hk => by
      rw [hl]
      split
      · simp
      · split
        · simp
        · simp [hk]
    have a1 : l'.length ≤ l.length := by simpa using e1
    rcases Nat.lt_or_ge l'.length l.length with h | h
    · exact absurd (by simp) (e2 l'.length h)
    · omega
  have hB : Below base w ((w.setCell ⟨g, off + i, none⟩ (.int .i32 y)).setCell ⟨g, off + j, none⟩ (.int .i32 x)).drew := (((Below.refl base w).setCell (by exact h4) _).setCell (by exact h4) _).drew
  refine ⟨h1.trans hB, fun k z hz => ?_, h3.below hB h5, h4, h5, h6, Nat.lt_of_lt_of_le h7 hB.size, by rw [hll]; exact (h8.set il _).set jl _⟩
  have hne : (⟨g, off + i, none⟩ : Addr) ≠ ⟨g, off + j, none⟩ := fun e => by simp only [Addr.mk.injEq] at e; omega
  rw [hl] at hz
  constructor
  · show ((w.setCell ⟨g, off + i, none⟩ (.int .i32 y)).setCell ⟨g, off + j, none⟩ (.int .i32 x)).cell? ⟨g, off + k, none⟩ = _
    by_cases hkj : k = j
    · subst hkj
      rw [if_neg (Ne.symm hij), if_pos rfl] at hz
      obtain rfl := Option.some.inj hz
      exact World.cell?_setCell_same _ _ _ ((World.cell?_setCell_other _ _ _ _ (by exact hne)).trans cj)
    · rw [World.cell?_setCell_other _ _ _ _ (by intro e; simp only [Addr.mk.injEq] at e; omega)]
      by_cases hki : k = i
      · subst hki
        rw [if_pos rfl] at hz
        obtain rfl := Option.some.inj hz
        exact World.cell?_setCell_same _ _ _ ci
      · rw [if_neg hki, if_neg hkj] at hz
        rw [World.cell?_setCell_other _ _ _ _ (by intro e; simp only [Addr.mk.injEq] at e; omega)]
        exact (h2 k z hz).1
  · show ((w.setCell ⟨g, off + i, none⟩ (.int .i32 y)).setCell ⟨g, off + j, none⟩ (.int .i32 x)).frozen? ⟨g, off + k, none⟩ = _
    rw [World.frozen?_setCell, World.frozen?_setCell]
    by_cases hki : k = i
    · subst hki; exact fi
    · by_cases hkj : k = j
      · subst hkj; exact fj
      · rw [if_neg hki, if_neg hkj] at hz
        exact (h2 k z hz).2
/-- Behind the first store the second place still holds what it held. -/
theorem In.c2 {base : Nat} {w0 w : World} {g off : Nat} {l : List Int} {i j : Nat} {y : Int} (h : In base w0 g off l w) (hy : l[j]? = some y) (hij : i ≠ j) (v : Value) :
    (w.setCell ⟨g, off + i, none⟩ v).cell? ⟨g, off + j, none⟩ = some (.int .i32 y) :=
  (World.cell?_setCell_other _ _ _ _ (by intro e; simp only [Addr.mk.injEq] at e; omega)).trans (h.cell hy)

/-! A row of the call's own, and a run of a row. -/
theorem cells_of {w : World} {g k : Nat} {u : Value} (h : w.cell? ⟨g, k, none⟩ = some u) : ∃ c e m, w.heap[g]? = some (.cells c e m) ∧ c[k]? = some u := Sort.cells_of_cell? h
theorem cell_of {w : World} {g k : Nat} {c : Array Value} {e : TypeId} {m : Nat × Nat} (h : w.heap[g]? = some (.cells c e m)) : w.cell? ⟨g, k, none⟩ = c[k]? := by simp [World.cell?, h]
theorem frozen_of {w : World} {g k : Nat} {c : Array Value} {e : TypeId} {m : Nat × Nat} (h : w.heap[g]? = some (.cells c e m)) : w.frozen? ⟨g, k, none⟩ = (decide (m.1 ≤ k) && decide (k < m.2)) := by simp [World.frozen?, h]
theorem In.start {base : Nat} {w0 : World} {v : Value} {l : List Int} (h : U.Own w0 base 21 .i32 v l) (hl : l ≠ []) (hSp : Sp w0) (hb0 : 2 < base) (hbs : base ≤ w0.heap.size) :
    ∃ g cap, v = .slice (some ⟨g, 0, none⟩) l.length cap ∧ l.length ≤ cap ∧ In base w0 g 0 l w0 := by
  rcases h.2 with ⟨_, h0⟩ | ⟨g, cap, cur, rfl, hb, hg, hc, _, _, ht⟩
  · exact absurd (List.eq_nil_of_length_eq_zero h0) hl
  · refine ⟨g, cap, rfl, hc, Below.refl _ _, fun i x hx => ?_, hSp, hb, hb0, hbs, (Array.getElem?_eq_some_iff.1 hg).1, Kp.refl _ _ _ _⟩
    rw [cell_of hg, frozen_of hg]
    refine ⟨?_, by simp⟩
    have h1 : (cur.toList.take (l.length * 1))[i]? = some (.int .i32 x) := by rw [ht]; simp [hx]
    rw [List.getElem?_take, if_pos (by have := (List.getElem?_eq_some_iff.1 hx).1; omega)] at h1
    rw [Nat.zero_add, ← Array.getElem?_toList]
    exact h1
theorem In.own {base g n cap : Nat} {w0 w : World} {l l' : List Int} (h0 : U.Own w0 base 21 .i32 (.slice (some ⟨g, 0, none⟩) n cap) l) (h : In base w0 g 0 l' w) (hl : l'.length = l.length) : U.Own w base 21 .i32 (.slice (some ⟨g, 0, none⟩) n cap) l' := by
  obtain ⟨_, h2, _, _, _, _, _, h8⟩ := h
  rcases h0.2 with ⟨h1, _⟩ | ⟨g', cap', cur, he, hb, hg, hc, hm, hs, ht⟩
  · cases h1
  · simp only [Value.slice.injEq, Option.some.injEq, Addr.mk.injEq, and_true] at he
    obtain ⟨⟨rfl, _⟩, rfl, rfl⟩ := he
    obtain ⟨c', k1, k2, k3⟩ := h8 _ _ _ hg
    refine ⟨by simp, .inr ⟨g, cap, c', by rw [hl], hb, k1, by rw [hl]; exact hc, hm, by rw [k2]; exact hs, ?_⟩⟩
    apply List.ext_getElem?
    intro i
    rw [List.getElem?_take, List.getElem?_map]
    by_cases hi : i < l'.length
    · rw [if_pos (by omega)]
      have := (h2 i l'[i] (by simp)).1
      rw [cell_of k1, Nat.zero_add] at this
      rw [Array.getElem?_toList, this]
      simp [hi]
    · rw [if_neg (by omega)]
      simp at hi
      simp [hi]
theorem In.sub {base g : Nat} {w0 w : World} {A s B : List Int} {a : Nat} (h : In base w0 g 0 (A ++ (s ++ B)) w) (ha : A.length = a) : In base w g a s w := by
  obtain ⟨h1, h2, h3, h4, h5, h6, h7, h8⟩ := h
  refine ⟨Below.refl _ _, fun i x hx => ?_, h3, h4, h5, Nat.le_trans h6 h1.size, h7, Kp.refl _ _ _ _⟩
  have := h2 (a + i) x (by
    have hi := (List.getElem?_eq_some_iff.1 hx).1
    rw [List.getElem?_append_right (by omega), ha, show a + i - a = i by omega, List.getElem?_append_left hi]
    exact hx)
  rwa [Nat.zero_add] at this
theorem In.sup {base g : Nat} {w0 w w' : World} {A s s' B : List Int} {a : Nat} (h : In base w0 g 0 (A ++ (s ++ B)) w) (ha : A.length = a) (h' : In base w g a s' w') (hs : s'.length = s.length) : In base w0 g 0 (A ++ (s' ++ B)) w' := by
  obtain ⟨h1, h2, h3, h4, h5, h6, h7, h8⟩ := h
  obtain ⟨k1, k2, k3, k4, k5, k6, k7, k8⟩ := h'
  refine ⟨h1.trans k1, fun i x hx => ?_, k3, h4, h5, h6, k7, fun c e m hc => ?_⟩
  · have il := (List.getElem?_eq_some_iff.1 hx).1
    simp only [List.length_append] at il
    by_cases i1 : a ≤ i ∧ i < a + s'.length
    · have := k2 (i - a) x (by
        rw [List.getElem?_append_right (by omega), ha, List.getElem?_append_left (by omega)] at hx
        exact hx)
      rw [show a + (i - a) = i by omega] at this
      rwa [Nat.zero_add]
    · have hx' : (A ++ (s ++ B))[i]? = some x := by
        by_cases i2 : i < A.length
        · rw [List.getElem?_append_left i2] at hx ⊢; exact hx
        · rw [List.getElem?_append_right (by omega), List.getElem?_append_right (by omega)] at hx ⊢
          rw [hs] at hx; exact hx
      obtain ⟨g1, g2⟩ := h2 i x hx'
      rw [Nat.zero_add] at g1 g2 ⊢
      obtain ⟨c, e, m, hc, hci⟩ := cells_of g1
      obtain ⟨c', p1, p2, p3⟩ := k8 c e m hc
      rw [cell_of p1, frozen_of p1, p3 i (by omega), hci]
      rw [frozen_of hc] at g2
      exact ⟨rfl, g2⟩
  · obtain ⟨c1, p1, p2, p3⟩ := h8 c e m hc
    obtain ⟨c2, r1, r2, r3⟩ := k8 c1 e m p1
    refine ⟨c2, r1, by omega, fun k hk => ?_⟩
    simp only [List.length_append] at hk p3
    rw [r3 k (by omega), p3 k (by omega)]

/-! Where things stand in a list. -/
theorem at_mid (A : List Int) (u : Int) (B : List Int) {i : Nat} (hi : A.length = i) : (A ++ u :: B)[i]? = some u := by
  subst hi; simp
theorem swap_mid (A : List Int) (u v : Int) (M B : List Int) {i j : Nat} (hi : A.length = i) (hj : i + 1 + M.length = j) (k : Nat) :
    (A ++ v :: (M ++ u :: B))[k]? = if k = i then some v else if k = j then some u else (A ++ u :: (M ++ v :: B))[k]? := by
  subst hi hj
  by_cases h1 : k < A.length
  · rw [if_neg (by omega), if_neg (by omega), List.getElem?_append_left h1, List.getElem?_append_left h1]
  · rw [List.getElem?_append_right (by omega), List.getElem?_append_right (by omega)]
    obtain ⟨m, rfl⟩ : ∃ m, k = A.length + m := ⟨k - A.length, by omega⟩
    rw [show A.length + m - A.length = m by omega]
    cases m with
    | zero => simp
    | succ m =>
      rw [if_neg (by omega), List.getElem?_cons_succ, List.getElem?_cons_succ]
      by_cases h2 : m < M.length
      · rw [if_neg (by omega), List.getElem?_append_left h2, List.getElem?_append_left h2]
      · rw [List.getElem?_append_right (by omega), List.getElem?_append_right (by omega)]
        obtain ⟨t, rfl⟩ : ∃ t, m = M.length + t := ⟨m - M.length, by omega⟩
        rw [show M.length + t - M.length = t by omega]
        cases t with
        | zero => simp; omega
        | succ t => rw [if_neg (by omega)]; simp
theorem at_mid2 (A : List Int) (u : Int) (M : List Int) (v : Int) (B : List Int) {i j : Nat} (hi : A.length = i) (hj : i + 1 + M.length = j) : (A ++ u :: (M ++ v :: B))[j]? = some v := by
  subst hi hj
  have : A ++ u :: (M ++ v :: B) = (A ++ u :: M) ++ v :: B := by simp
  rw [this]
  exact at_mid _ _ _ (by simp; omega)
end Go.Proofs.YtipigfgnpfhdbaaGreatDoor.F
namespace Go.Proofs.YtipigfgnpfhdbaaGreatDoor.K
open Go.RowKit U F
set_option linter.unusedVariables false

/-- The function tells p of the numbers of l, and lays blocks at most. -/
def PredB (g : Nat) (cb : Array Value) (p : Int → Bool) (w : World) (l : List Int) : Prop :=
  ∀ x ∈ l, ∀ w', Bel w w' → Calls Tryz.prog g (#[.int .i32 x] ++ cb) w' (fun e w'' => e = .returned (.bool (p x)) ∧ Bel w' w'')
def IdxB (w : World) (l : List Int) (p : Int → Bool) (e : Ending) (w' : World) : Prop :=
  Bel w w' ∧ ((e = .returned (.int .i64 (-1)) ∧ l.any p = false) ∨ ∃ i : Nat, e = .returned (.int .i64 i) ∧ i < l.length ∧ l.any p = true)
def IdxRelB (w : World) (l : List Int) (p : Int → Bool) (u : Value) (wr : World) : Prop :=
  ∃ i : Nat, i ≤ l.length ∧ u = .int .i64 i ∧ Bel w wr ∧ ∀ y ∈ l.take i, p y = false
set_option maxRecDepth 100000 in
set_option maxHeartbeats 4000000 in
theorem indexB_is (g : Nat) (cb : Array Value) (p : Int → Bool) (A : Option Addr) (n c C : Nat) (l : List Int) (w : World) (eg : ∀ args w, (callFunc g args).run Tryz.prog w = .ok (.enter g args) w)
    (hlen : l.length ≤ 10000) (hn : l.length = n) (hr : U.Rd w C .i32 A l) (hp : PredB g cb p w l) :
    Calls Tryz.prog 110 #[.slice A n c, .func (.func g) #[] cb] w (IdxB w l p) := by
  subst hn
  have HP := Lib.hid hp
  have HR := Lib.hid hr
  have hlw : wrap64 (l.length : Int) = (l.length : Int) := by unfold wrap64; omega
  clear hp hr
  go_enter Tryz.func110, Tryz.ntmps110
  go_wp2
  go_loopw [8] (fun u wr => IdxRelB w l p u wr) (fun u _ => l.length - (intOf u).toNat)
  case atStart => exact ⟨0, by omega, rfl, Bel.refl _, by simp⟩
  case round =>
    obtain ⟨i, hi, rfl, hB, hall⟩ := hrel
    have HB := Lib.hid hB
    have HAll := Lib.hid hall
    clear hB hall
    by_cases hil : i < l.length
    · have p0 : decide ((i : Int) < (l.length : Int)) = true := by simp; omega
      have p1 : wrap64 ((i : Int) + 1) = ((i + 1 : Nat) : Int) := by unfold wrap64; omega
      obtain ⟨x, hx⟩ : ∃ x, l[i]? = some x := ⟨_, List.getElem?_eq_getElem hil⟩
      have hrd := HR.out.bel HB.out
      obtain ⟨g0, off, rfl, _, _⟩ := hrd.isSome (by omega)
      have c0 := hrd.at hx
      have HX := Lib.hid hx
      have hc := HP.out x (List.mem_of_getElem? hx) wr HB.out
      obtain ⟨b, hb⟩ : ∃ b, p x = b := ⟨_, rfl⟩
      rw [hb] at hc
      have HPx := Lib.hid hb
      clear hrd hx hb
      cases b with
      | true =>
        go_wp2_with (go_at_fn g; refine hc.mono ?_; rintro e w1 ⟨rfl, hb1⟩)
        go_ret
        exact ⟨HB.out.trans hb1, .inr ⟨i, rfl, hil, List.any_eq_true.2 ⟨x, List.mem_of_getElem? HX.out, HPx.out⟩⟩⟩
      | false =>
        go_wp2_with (go_at_fn g; refine hc.mono ?_; rintro e w1 ⟨rfl, hb1⟩)
        exact ⟨⟨i + 1, by omega, by simp, HB.out.trans hb1, G.take_all HAll.out HX.out HPx.out⟩, by simp [intOf]; omega⟩
    · obtain rfl : i = l.length := by omega
      have p0 : decide ((l.length : Int) < (l.length : Int)) = false := by simp
      go_wp2
      go_ret
      refine ⟨HB.out, .inl ⟨rfl, ?_⟩⟩
      rw [List.take_length] at HAll
      rw [List.any_eq_false]
      intro x hx
      rw [HAll.out x hx]
      decide
theorem contains_is (g : Nat) (cb : Array Value) (p : Int → Bool) (b : Bool) (A : Option Addr) (n c C : Nat) (l : List Int) (w : World) (eg : ∀ args w, (callFunc g args).run Tryz.prog w = .ok (.enter g args) w)
    (hlen : l.length ≤ 10000) (hn : l.length = n) (hr : U.Rd w C .i32 A l) (hp : PredB g cb p w l) (hb : l.any p = b) :
    Calls Tryz.prog 69 #[.slice A n c, .func (.func g) #[] cb] w (fun e w' => e = .returned (.bool b) ∧ Bel w w') := by
  have HI := Lib.hid (indexB_is g cb p A n c C l w eg hlen hn hr hp)
  have HB := Lib.hid hb
  clear hr hp eg hb
  go_enter Tryz.func69, Tryz.ntmps69
  go_wp2_with fail
  with_reducible refine HI.out.mono ?_
  rintro e w1 ⟨h1, ⟨rfl, h2⟩ | ⟨i, rfl, hi, h2⟩⟩
  · rw [HB.out] at h2
    subst h2
    have HB1 := Lib.hid h1
    clear h1
    go_wp2
    go_ret
    exact ⟨ret_bool (by decide), HB1.out⟩
  · rw [HB.out] at h2
    subst h2
    have HB1 := Lib.hid h1
    have q : (0 : Int) ≤ (i : Int) := by omega
    clear h1
    go_wp2
    go_ret
    exact ⟨ret_bool (by simp), HB1.out⟩

theorem enters_firsts : ∀ (args : Array Value) (w : World), (callFunc 70 args).run Tryz.prog w = .ok (.enter 70 args) w := enters_of Tryz.func70 (by kernel_rfl) rfl
/-- Two marks of one class. -/
theorem same_is (m x : Int) (b : Nat) (p : Bool) (w : World) (hS : F.Sp w) (hc : w.cell? ⟨b, 0, none⟩ = some (.int .i32 m)) (hp : decide (cls x = cls m) = p) :
    Calls Tryz.prog 70 #[.int .i32 x, .pointer (some ⟨b, 0, none⟩)] w (fun e w' => e = .returned (.bool p) ∧ Bel w w') := by
  obtain ⟨cx, hcx⟩ : ∃ c, cls x = c := ⟨_, rfl⟩
  obtain ⟨cm, hcm⟩ : ∃ c, cls m = c := ⟨_, rfl⟩
  have ha : ∀ (n : Nat) (os : Array Obj), Calls Tryz.prog 66 #[.int .i32 x] (Sort.grow (w.drewN n) os) fun e w' => e = .returned (.int .i64 cx) ∧ ∃ q os', w' = Sort.grow ((Sort.grow (w.drewN n) os).drewN q) os' :=
    fun n os => of_is x cx _ (hS.bel ⟨n, os, rfl⟩) hcx
  have hb : ∀ (n : Nat) (os : Array Obj), Calls Tryz.prog 66 #[.int .i32 m] (Sort.grow (w.drewN n) os) fun e w' => e = .returned (.int .i64 cm) ∧ ∃ q os', w' = Sort.grow ((Sort.grow (w.drewN n) os).drewN q) os' :=
    fun n os => of_is m cm _ (hS.bel ⟨n, os, rfl⟩) hcm
  have la : ∀ (n : Nat) (os : Array Obj), (Sort.grow (w.drewN n) os).cell? ⟨b, 0, none⟩ = some (.int .i32 m) := fun n os => cell_bel hc (Gr.bel ⟨n, os, rfl⟩)
  rw [hcx, hcm] at hp
  have HP := Lib.hid hp
  have hmx := F.mixed
  clear hp hcx hcm hS
  go_enter Tryz.func70, Tryz.ntmps70
  go_wp2_with fail
  go_quiet_grown (first | (go_at_call_of 66 x; with_reducible refine Calls.grown_of (ha _ _)) | (go_at_call_of 66 m; with_reducible refine Calls.grown_of (hb _ _)))
  go_wp2
  go_ret
  exact ⟨ret_bool (by rw [← HP.out]; by_cases h : cx = cm <;> simp [h]), Gr.bel ⟨_, _, rfl⟩⟩

/-- slices.Sort of a row of one's own. -/
theorem sort_own (base : Nat) (v : Value) (l : List Int) (w : World) (hO : U.Own w base 21 .i32 v l) (hne : l ≠ []) (hlen : l.length ≤ 10000) :
    Calls Tryz.prog 30 #[v] w (fun e w' => e = .returned (.tuple #[]) ∧ ∃ l', l'.Perm l ∧ l'.Pairwise (· ≤ ·) ∧ U.Own w' base 21 .i32 v l' ∧ Below base w w') := by
  rcases hO.2 with ⟨rfl, h0⟩ | ⟨g, cap, cur, rfl, hbg, hgb, r1, r2, r3, r4⟩
  · exact absurd (List.eq_nil_of_length_eq_zero h0) hne
  · have hgl : g < w.heap.size := (Array.getElem?_eq_some_iff.1 hgb).1
    have hc := Q.sort_is g 0 cap l.toArray w (G.holds32 hgb (by simpa using r4)) (by simp; omega) hgl
    rw [show l.toArray.size = l.length by simp] at hc
    refine hc.mono ?_
    rintro e w2 ⟨rfl, d', hs, hp, hso, n, os, rfl⟩
    have hdl : d'.toList.length = l.length := by simpa using hs
    have hpp := G.perm_of (d := l.toArray) (d' := d') (by rw [show l.toArray.size = l.length by simp]; exact hp)
    refine ⟨rfl, d'.toList, by simpa using hpp, G.pw_of (by rw [hs]; exact hso), ?_, ?_⟩
    · unfold U.Own
      refine ⟨by simp, .inr ⟨g, cap, _, by rw [hdl], hbg, G.heap_sorted32 d' hgb, by omega, r2, by simp [Go.Sort.putCells, r3], ?_⟩⟩
      rw [Nat.mul_one]
      exact G.take_put32 cur d'.toList (by rw [hdl, r3]; omega)
    · refine ⟨rfl, rfl, rfl, by simp, fun k hk => ?_⟩
      have hk2 : g ≠ k := by omega
      by_cases hkw : k < w.heap.size
      · rw [Go.Sort.heap_grow_old _ _ (by simpa using hkw)]
        simp [Go.Sort.putRow, Go.Sort.mapBlock, Go.Sort.ahead, Array.getElem?_modify, hk2]
      · omega
end Go.Proofs.YtipigfgnpfhdbaaGreatDoor.K
namespace Go.Proofs.YtipigfgnpfhdbaaGreatDoor.K
open Go.RowKit U F
set_option linter.unusedVariables false

def FoundP (w : World) (l : List Int) (x : Int) (e : Ending) (w' : World) : Prop :=
  Bel w w' ∧ ((e = .returned (.int .i64 (-1)) ∧ ∀ y ∈ l, y ≠ x) ∨ ∃ i : Nat, e = .returned (.int .i64 i) ∧ l[i]? = some x ∧ ∀ y ∈ l.take i, y ≠ x)
def FoundRel (w : World) (l : List Int) (x : Int) (u : Value) (wr : World) : Prop :=
  ∃ i : Nat, i ≤ l.length ∧ u = .int .i64 i ∧ Hid (Bel w wr ∧ ∀ y ∈ l.take i, y ≠ x)
set_option maxRecDepth 100000 in
set_option maxHeartbeats 4000000 in
theorem find_is (x : Int) (A : Option Addr) (n c C : Nat) (l : List Int) (w : World) (hlen : l.length ≤ 10000) (hn : l.length = n) (hr : U.Rd w C .i32 A l) :
    Calls Tryz.prog 71 #[.slice A n c, .int .i32 x] w (FoundP w l x) := by
  subst hn
  have HR := Lib.hid hr
  clear hr
  go_enter Tryz.func71, Tryz.ntmps71
  go_wp2
  go_loopw [8] (fun u wr => FoundRel w l x u wr) (fun u _ => l.length - (intOf u).toNat)
  case atStart => exact ⟨0, by omega, rfl, Lib.hid ⟨Bel.refl _, by simp⟩⟩
  case round =>
    obtain ⟨i, hi, rfl, HK⟩ := hrel
    by_cases hil : i < l.length
    · have p0 : (i : Int) < (l.length : Int) := by omega
      have p00 : (0 : Int) ≤ (i : Int) := by omega
      obtain ⟨y, hy⟩ : ∃ y, l[i]? = some y := ⟨_, List.getElem?_eq_getElem hil⟩
      have hrd := HR.out.bel HK.out.1
      obtain ⟨g0, off, rfl, _, _⟩ := hrd.isSome (by omega)
      have c0 := hrd.at hy
      have HX := Lib.hid hy
      by_cases hxy : x = y
      · subst hxy
        have p1 : (x == x) = true := by simp
        clear hrd hy
        go_wp2
        go_ret
        exact ⟨HK.out.1, .inr ⟨i, rfl, HX.out, HK.out.2⟩⟩
      · have p1 : (x == y) = false := by simp [hxy]
        have HNE := Lib.hid hxy
        clear hrd hy hxy
        go_wp2
        go_roundw
        case rel =>
          refine ⟨i + 1, by omega, by go_num, Lib.hid ⟨HK.out.1, fun z hz => ?_⟩⟩
          rw [List.take_add_one, HX.out, Option.toList_some, List.mem_append] at hz
          rcases hz with h | h
          · exact HK.out.2 z h
          · simp at h; subst h; exact fun e => HNE.out e.symm
        case measure => simp [intOf]; omega
    · obtain rfl : i = l.length := by omega
      have p0 : ¬ (l.length : Int) < (l.length : Int) := by omega
      go_wp2
      go_ret
      refine ⟨HK.out.1, .inl ⟨rfl, fun y hy => HK.out.2 y (by rw [List.take_length]; exact hy)⟩⟩

def CloneP (w : World) (l : List Int) (e : Ending) (w' : World) : Prop := ∃ v, e = .returned v ∧ U.Own w' w.heap.size 21 .i32 v l ∧ Bel w w'
theorem infoC : (Tryz.prog.info? 21).map (fun i => (i.zero, i.size, i.bytes)) = some (some (.int .i32 0), 1, 4) := by kernel_rfl
theorem eql_nil (w : World) (a : Option Addr) (n c n' c' : Nat) : (binOp .eql 22 (.slice a n c) (.slice none n' c')).run Tryz.prog w = .ok (.bool a.isNone) w := Lib.run_eql_slice_nil w _ _ a n c n' c' Tryz.underlying22
set_option maxRecDepth 100000 in
set_option maxHeartbeats 4000000 in
theorem clone_is (A : Option Addr) (n c C : Nat) (l : List Int) (w : World) (hr : U.Rd w C .i32 A l) (hl : l.length = n) (hn : n ≤ 100000) (hnil : A = none → l = []) :
    Calls Tryz.prog 42 #[.slice A n c] w (CloneP w l) := by
  obtain ⟨i0, hi0, hz0, hz1, hz2⟩ := info_parts infoC
  have q22 := eql_nil
  cases A with
  | none =>
    have hl0 := hnil rfl
    subst hl0
    clear hr hl hnil
    go_enter Tryz.func42, Tryz.ntmps42
    go_wp2
    go_ret
    exact ⟨_, rfl, Own.nil _ _ _ _, Bel.refl _⟩
  | some ad =>
    have HO := Lib.hid (Own.empty w 21 .i32)
    have HR := Lib.hid (hr.alloc (.cells #[] 21))
    have HL := Lib.hid hl
    clear hr hl hnil
    go_enter Tryz.func42, Tryz.ntmps42
    go_wp2_with (first | (at_builtin; refine F.wpl_append (by rfl) (.tmp 5) (.tmp 6) 22 rfl Tryz.underlying22 hi0 hz0 hz1 hz2 rfl (by omega) HO.out rfl HR.out rfl HL.out (fun e => by cases e) (by simp; omega) (by simp) ?_; intro v2 w2 hown2 hb2; have HO2 := Lib.hid hown2; have HB2 := Lib.hid hb2; clear hown2 hb2) | fail)
    go_ret
    exact ⟨v2, rfl, by simpa using HO2.out, Below.trans ((Bel.refl w).alloc _) HB2.out⟩

theorem heap_put32 {w : World} {g n : Nat} {cur : Array Value} {e : TypeId} {fr : Nat × Nat} (d : Array Int) (hb : w.heap[g]? = some (.cells cur e fr)) :
    (Go.Sort.putRow Q.E (Go.Sort.ahead w n) g 0 d).heap[g]? = some (.cells (Go.Sort.putCells Q.E 0 d cur) e fr) := by
  simp [Go.Sort.putRow, Go.Sort.mapBlock, Go.Sort.ahead, Array.getElem?_modify, hb, Go.Sort.onCells]
def CutP (base : Nat) (w : World) (l : List Int) (e : Ending) (w' : World) : Prop := ∃ v, e = .returned v ∧ U.Own w' base 21 .i32 v l ∧ Below base w w'
theorem delete_is (base i : Nat) (j x : Int) (v : Value) (l : List Int) (w : World) (hO : U.Own w base 21 .i32 v l) (hi : l[i]? = some x) (hj : j = (i : Int) + 1) (hlen : l.length ≤ 10000) :
    Calls Tryz.prog 72 #[v, .int .i64 i, .int .i64 j] w (CutP base w (l.eraseIdx i)) := by
  obtain ⟨i0, hi0, hz0, hz1, hz2⟩ := info_parts infoC
  have hil : i < l.length := (List.getElem?_eq_some_iff.1 hi).1
  rcases hO.2 with ⟨rfl, h0⟩ | ⟨g, cap, cur, rfl, hbg, hgb, r1, r2, r3, r4⟩
  · omega
  · have hgl : g < w.heap.size := (Array.getElem?_eq_some_iff.1 hgb).1
    have hc := AnyE.slices_Delete (P := Tryz.prog) (ρ := delLay_ren) { delLay with } (Value.int .i32) (fun _ => rfl) 0 (fun w => by kernel_rfl) i0 hi0 hz1 g 0 cap i (i + 1) l.toArray w (G.holds32 hgb (by simpa using r4)) (by simpa using r1) (by simp only [maxLen] at r2; omega) (by omega) (by simp; omega)
    rw [show l.toArray.size = l.length by simp, show (((i + 1 : Nat)) : Int) = j by omega] at hc
    refine hc.mono ?_
    rintro e w2 ⟨rfl, q, rfl⟩
    have hE : l.eraseIdx i = l.take i ++ l.drop (i + 1) := List.eraseIdx_eq_take_drop_succ l i
    have hEl : (l.eraseIdx i).length = l.length - 1 := by rw [List.length_eraseIdx, if_pos hil]
    obtain ⟨ts, hts⟩ : ∃ ts, l.toArray.toList.take i ++ l.toArray.toList.drop (i + 1) ++ List.replicate (i + 1 - i) (0 : Int) = ts := ⟨_, rfl⟩
    have hts2 : ts = l.eraseIdx i ++ [0] := by rw [← hts, hE, show i + 1 - i = 1 by omega]; simp
    have htl : ts.length = l.length := by rw [hts2, List.length_append, hEl, List.length_singleton]; omega
    rw [hts]
    refine ⟨_, rfl, ?_, ?_⟩
    · unfold U.Own
      refine ⟨by simp, .inr ⟨g, cap, _, by rw [hEl, show l.length - (i + 1 - i) = l.length - 1 by omega], hbg, heap_put32 ts.toArray hgb, by omega, r2, by simp [Go.Sort.putCells, r3], ?_⟩⟩
      have h1 := G.take_put32 cur ts (by rw [htl, r3]; omega)
      have h2 := congrArg (List.take (l.length - 1)) h1
      rw [List.take_take, htl, Nat.min_eq_left (by omega)] at h2
      rw [Nat.mul_one, hEl, h2, hts2, List.map_append, List.take_append_of_le_length (by simp [hEl]), List.take_of_length_le (by simp [hEl])]
    · refine ⟨rfl, rfl, rfl, by simp, fun k hk => ?_⟩
      have hk2 : g ≠ k := by omega
      simp [Go.Sort.putRow, Go.Sort.mapBlock, Go.Sort.ahead, Array.getElem?_modify, hk2]
end Go.Proofs.YtipigfgnpfhdbaaGreatDoor.K
