/- What the listed variables give the walks of package read: the library's tables, the sets' last bytes, the spans of marks. Places of two numbers; the reader where another place is written. What bytes.TrimLeft answers at the set of bytes that may stand ahead of a set's last bytes: the slice behind them. What the reference's Same and Less answer: whether two lists are one; whether one is less. What bytes.Equal, bytes.HasPrefix and escape's lasts, among, alone and tell answer. What escape.Next answers: the sets behind the escape that stands there, or that none does. What escape.Next answers where a byte 27 stands. What the reader's step does where an escape stands. -/
import Derived.Test.YtphnahabonfmmaaGreatDoorRows
import Derived.Test.YtphnahabonfmmaaGreatDoorM5
import Derived.WalkKit
import Derived.ProofKit
import Derived.Lay
import Derived.LaidOnce
import Derived.SevenTiedAt
import Derived.Lib.LaidTab
import Derived.Lib.LaidU8
import Derived.Shelf.Vars
import Derived.Stop.LaidErr
import Derived.Test.YtphnahabonfmmaaGreatDoorM2
import Derived.Deep.AppendLies
import Derived.Test.YtphnahabonfmmaaGreatDoorChecked
import Derived.Test.YtphnahabonfmmaaGreatDoorM1
import Derived.Lib.AsciiSet
import Derived.Lib.IndexBytes
import Derived.Laws.ResultCell
import Derived.Deep.LoopGhost
import Derived.Deep.WholeRow
import Derived.Laws.Strings3
import Derived.Lib.SlBytesConst
namespace Go.Proofs.YtphnahabonfmmaaGreatDoor.D
open Go.ChangeShapes Go.WideShapes Go.ChangeAt Go.RowKit Go.Shelf U V
set_option linter.unusedVariables false

def laidL : List (String × DataW Unit) := Rows.readJoinsRow.laid
theorem laid_same0 : Rows.readJoinsRow.laid = laidL := rfl
theorem laid_same : Rows.readShutRow.laid = laidL := by kernel_rfl
theorem laid_same2 : Rows.readShutUptoRow.laid = laidL := by kernel_rfl
def nSp : String := (Rows.readJoinsRow.named).getD 4 ""
def nFst : String := (Rows.readJoinsRow.named).getD 0 ""
def nAcc : String := (Rows.readJoinsRow.named).getD 1 ""
def nWh : String := (Rows.readJoinsRow.named).getD 5 ""
def nTb : String := (Rows.readJoinsRow.named).getD 2 ""
def nCl : String := (Rows.readJoinsRow.named).getD 11 ""
theorem mem_at {α : Type} {l : List α} {i : Nat} {x : α} (h : l[i]? = some x) : x ∈ l := List.mem_of_getElem? h
theorem lSp : laidL[9]? = some (nSp, Lib.tabData .u8 Lib.asciiSpaceTab) := by kernel_rfl
theorem lFst : laidL[10]? = some (nFst, Lib.firstData) := by kernel_rfl
theorem lAcc : laidL[3]? = some (nAcc, Lib.acceptData) := by kernel_rfl
theorem lWh : laidL[8]? = some (nWh, Lib.whiteData) := by kernel_rfl
theorem gSp : Tryz.prog.globalNamed nSp = some 3 := by kernel_rfl
theorem tSp : (Tryz.prog.globals[3]?).map (·.type) = some 180 := by kernel_rfl
theorem c5 : Tryz.prog.cellsOf 5 = 1 := by kernel_rfl
theorem c256 : Tryz.prog.cellsOf 180 = 256 := by kernel_rfl

theorem tz_of {W : World} (h : laidMetH Tryz.prog laidL W) (hs : W.ShapedOpen Tryz.prog) : Tz W := by
  rw [MakeChecks.laidMetH_plain _ _ _ (by kernel_rfl)] at h
  refine ⟨?_, ?_, ?_, ?_⟩
  · obtain ⟨g, t, cs, fuel, p, hg, hty, hvar, hd⟩ := Lib.laidMet.reads h (mem_at lSp)
    obtain rfl := Option.some.inj (gSp.symm.trans hg)
    obtain rfl := Option.some.inj (tSp.symm.trans hty)
    have hcs := Lib.cells_of_tab Tryz.underlying180 Tryz.underlying5 c5 c256 hd
    have e : cs = (Lib.asciiSpaceTab.map fun z => Value.int .u8 z).toArray := by
      rw [← hcs]
    exact hvar.trans (by rw [e])
  · exact utf8Tabs_of_reads (ρ := lays197_ren) { lays197 with } ⟨by kernel_rfl, by kernel_rfl, by kernel_rfl, by kernel_rfl, by kernel_rfl, by kernel_rfl, by kernel_rfl⟩ (Lib.laidMet.reads h (mem_at lFst)) (Lib.laidMet.reads h (mem_at lAcc))
  · exact whiteTab_of_reads (ρ := lays199_ren) { lays199 with } ⟨by kernel_rfl, by kernel_rfl, by kernel_rfl, by kernel_rfl, by kernel_rfl, by kernel_rfl, by kernel_rfl, by kernel_rfl⟩ (Lib.laidMet.reads h (mem_at lWh))
  · exact cell_of_shapedOpen_int (zero := #[.int .i64 0]) (t := 3) hs (Nat.le_of_ble_eq_true (by kernel_rfl)) (by kernel_rfl) rfl (by kernel_rfl) (by kernel_rfl) Tryz.underlying3

def rowData (l : List Int) : DataW Unit := .lit (.string (bs l))
theorem gTb : Tryz.prog.globalNamed nTb = some 1 := by kernel_rfl
theorem tTb : (Tryz.prog.globals[1]?).map (·.type) = some 84 := by kernel_rfl
theorem c9 : Tryz.prog.cellsOf 9 = 1 := by kernel_rfl
theorem c13 : Tryz.prog.cellsOf 84 = 13 := by kernel_rfl
theorem lTb : laidL[4]? = some (nTb, .agg (lastT.map rowData)) := by kernel_rfl
theorem lastT_len : lastT.length = 13 := by decide
theorem rows_of {W : World} {fuel : Nat} {cs : List Value} {p : List MemPlace} (h : DataW.trod (fun _ => ()) Tryz.prog W 0 (fun _ => true) false fuel 84 cs = some (.agg (lastT.map rowData), p)) :
    ∀ (i : Nat) (l : List Int), lastT[i]? = some l → cs[i]? = some (Value.string (str l)) := by
  cases fuel with
  | zero => simp [DataW.trod] at h
  | succ fuel =>
    simp only [DataW.trod, Tryz.underlying84, c9, c13] at h
    split at h
    · rename_i hl
      obtain ⟨xs, hm, hx⟩ := Option.map_eq_some_iff.1 h
      have hxs : xs.map (·.1) = lastT.map rowData := by
        have := congrArg Prod.fst hx
        simpa using this
      intro i s hs
      have hi : i < 13 := by rw [← lastT_len]; exact (List.getElem?_eq_some_iff.1 hs).1
      obtain ⟨b, hb, hf⟩ := Lib.mapM_at hm i i (by simp [hi])
      have h2 : (xs.map (·.1))[i]? = some b.1 := by simp [hb]
      rw [hxs, List.getElem?_map, hs] at h2
      have e : b = (rowData s, b.2) := by
        have := Option.some.inj h2
        exact Prod.ext this.symm rfl
      rw [e] at hf
      obtain ⟨S, h3, h4, _⟩ := DataW.trod_string Tryz.underlying9 hf
      have h5 : bs s = S.data.toList := by
        have := congrArg Prod.fst h4
        simpa [rowData] using this
      have h6 : S = str s := by
        obtain ⟨d⟩ := S
        simp only [str, h5]
      have h7 := congrArg (·[0]?) h3
      simp only [Nat.mul_one, List.getElem?_take, List.getElem?_drop, Nat.add_zero, h6] at h7
      simpa using h7
    · cases h
theorem tb_of {W : World} (h : laidMetH Tryz.prog laidL W) : Tb W := by
  rw [MakeChecks.laidMetH_plain _ _ _ (by kernel_rfl)] at h
  obtain ⟨g, t, cs, fuel, p, hg, ht, hvar, hd⟩ := Lib.laidMet.reads h (List.mem_of_getElem? lTb)
  obtain rfl := Option.some.inj (gTb.symm.trans hg)
  obtain rfl := Option.some.inj (tTb.symm.trans ht)
  have hR := rows_of hd
  intro k l hl
  rw [World.var?_cell gTb hvar k, ← Array.getElem?_toList]
  exact hR k l hl

def spanData (s : C.Row) : DataW Unit := .agg [.lit (.int .i32 s.1), .lit (.int .i32 s.2.1), .lit (.int .u8 s.2.2.1), .lit (.int .u8 s.2.2.2)]
theorem gCl : Tryz.prog.globalNamed nCl = some 2 := by kernel_rfl
theorem tCl : (Tryz.prog.globals[2]?).map (·.type) = some 169 := by kernel_rfl
theorem c21 : Tryz.prog.cellsOf 21 = 1 := by kernel_rfl
theorem cSpan : Tryz.prog.cellsOf 168 = 4 := by kernel_rfl
theorem cSpans : Tryz.prog.cellsOf 169 = 160 := by kernel_rfl
theorem lCl : laidL[5]? = some (nCl, .agg (C.tab.map spanData)) := by kernel_rfl
theorem span_of {W : World} {fuel : Nat} {cs : List Value} {s : C.Row} {p : List MemPlace} (h : DataW.trod (fun _ => ()) Tryz.prog W 0 (fun _ => true) false fuel 168 cs = some (spanData s, p)) : cs = C.row4 s := by
  obtain ⟨xs, n, rfl, hx, hl, hxl, hf⟩ := DataW.trod_struct Tryz.underlying168 h
  have f0 := hf 0 _ rfl
  have f1 := hf 1 _ rfl
  have f2 := hf 2 _ rfl
  have f3 := hf 3 _ rfl
  clear hf h
  rw [cSpan] at hl
  obtain ⟨c0, c1, c2, c3, rfl⟩ : ∃ a b c d, cs = [a, b, c, d] := by
    rcases cs with _ | ⟨a, _ | ⟨b, _ | ⟨c, _ | ⟨d, _ | ⟨e, t⟩⟩⟩⟩⟩ <;> simp at hl
    exact ⟨a, b, c, d, rfl⟩
  obtain ⟨x0, x1, x2, x3, rfl⟩ : ∃ a b c d, xs = [a, b, c, d] := by
    have hxl : xs.length = 4 := hxl
    rcases xs with _ | ⟨a, _ | ⟨b, _ | ⟨c, _ | ⟨d, _ | ⟨e, t⟩⟩⟩⟩⟩ <;> simp at hxl
    exact ⟨a, b, c, d, rfl⟩
  have e0 : (spanData s) = .agg [x0.1, x1.1, x2.1, x3.1] := congrArg Prod.fst hx
  simp only [spanData, DataW.agg.injEq, List.cons.injEq, and_true] at e0
  obtain ⟨e0, e1, e2, e3⟩ := e0
  have g0 : DataW.trod (fun _ => ()) Tryz.prog W 0 (fun _ => true) false n 21 (([c0, c1, c2, c3].drop 0).take (Tryz.prog.cellsOf 21)) = some x0 := f0
  rw [c21] at g0
  have k0 : DataW.trod (fun _ => ()) Tryz.prog W 0 (fun _ => true) false n 21 [c0] = some x0 := g0
  have g1 : DataW.trod (fun _ => ()) Tryz.prog W 0 (fun _ => true) false n 21 (([c0, c1, c2, c3].drop 1).take (Tryz.prog.cellsOf 21)) = some x1 := f1
  rw [c21] at g1
  have k1 : DataW.trod (fun _ => ()) Tryz.prog W 0 (fun _ => true) false n 21 [c1] = some x1 := g1
  have g2 : DataW.trod (fun _ => ()) Tryz.prog W 0 (fun _ => true) false n 5 (([c0, c1, c2, c3].drop 2).take (Tryz.prog.cellsOf 5)) = some x2 := f2
  rw [c5] at g2
  have k2 : DataW.trod (fun _ => ()) Tryz.prog W 0 (fun _ => true) false n 5 [c2] = some x2 := g2
  have g3 : DataW.trod (fun _ => ()) Tryz.prog W 0 (fun _ => true) false n 5 (([c0, c1, c2, c3].drop 3).take (Tryz.prog.cellsOf 5)) = some x3 := f3
  rw [c5] at g3
  have k3 : DataW.trod (fun _ => ()) Tryz.prog W 0 (fun _ => true) false n 5 [c3] = some x3 := g3
  clear f0 f1 f2 f3 g0 g1 g2 g3
  obtain ⟨n0, h0, rfl, _⟩ := DataW.trod_int Tryz.underlying21 k0
  obtain ⟨n1, h1, rfl, _⟩ := DataW.trod_int Tryz.underlying21 k1
  obtain ⟨n2, h2, rfl, _⟩ := DataW.trod_int Tryz.underlying5 k2
  obtain ⟨n3, h3, rfl, _⟩ := DataW.trod_int Tryz.underlying5 k3
  simp only [DataW.lit.injEq, Lit.int.injEq, true_and] at e0 e1 e2 e3
  simp only [List.cons.injEq, and_true] at h0 h1 h2 h3
  simp [C.row4, h0, h1, h2, h3, e0, e1, e2, e3]
theorem spans_of {W : World} {fuel : Nat} {cs : List Value} {p : List MemPlace} (h : DataW.trod (fun _ => ()) Tryz.prog W 0 (fun _ => true) false fuel 169 cs = some (.agg (C.tab.map spanData), p)) :
    ∀ i s, C.tab[i]? = some s → (cs.drop (i * 4)).take 4 = C.row4 s := by
  cases fuel with
  | zero => simp [DataW.trod] at h
  | succ fuel =>
    simp only [DataW.trod, Tryz.underlying169, cSpan, cSpans] at h
    split at h
    · obtain ⟨xs, hm, hx⟩ := Option.map_eq_some_iff.1 h
      have hxs : xs.map (·.1) = C.tab.map spanData := by
        have := congrArg Prod.fst hx
        simpa using this
      intro i s hs
      have hi : i < 40 := by rw [← C.tab_len]; exact (List.getElem?_eq_some_iff.1 hs).1
      obtain ⟨b, hb, hf⟩ := Lib.mapM_at hm i i (by simp [hi])
      have h2 : (xs.map (·.1))[i]? = some b.1 := by simp [hb]
      rw [hxs, List.getElem?_map, hs] at h2
      have e : b = (spanData s, b.2) := by
        have := Option.some.inj h2
        exact Prod.ext this.symm rfl
      rw [e] at hf
      exact span_of hf
    · cases h
theorem sp_of {W : World} (h : laidMetH Tryz.prog laidL W) : C.Sp W := by
  rw [MakeChecks.laidMetH_plain _ _ _ (by kernel_rfl)] at h
  obtain ⟨g, t, cs, fuel, p, hg, ht, hvar, hd⟩ := Lib.laidMet.reads h (List.mem_of_getElem? lCl)
  obtain rfl := Option.some.inj (gCl.symm.trans hg)
  obtain rfl := Option.some.inj (tCl.symm.trans ht)
  have hR := spans_of hd
  intro j v hv
  have hj : j < 160 := by
    have := (List.getElem?_eq_some_iff.1 hv).1
    rwa [show C.tabC.length = 160 by kernel_rfl] at this
  obtain ⟨s, hs⟩ := C.tab_at (i := j / 4) (by omega)
  have h1 := C.flat4 C.row4 (fun _ => rfl) C.tab (j / 4) s hs (j % 4) (by omega)
  rw [show j / 4 * 4 + j % 4 = j by omega] at h1
  have h2 := congrArg (·[j % 4]?) (hR (j / 4) s hs)
  simp only [List.getElem?_take, List.getElem?_drop, show j % 4 < 4 by omega, if_true, show j / 4 * 4 + j % 4 = j by omega] at h2
  have h3 := World.var?_cell gCl hvar j
  rw [Nat.zero_add, h3, ← Array.getElem?_toList, h2, ← h1]
  exact hv
theorem dz_of {W : World} (h : laidMetH Tryz.prog laidL W) (hs : W.ShapedOpen Tryz.prog) : Dz W := ⟨tz_of h hs, tb_of h, sp_of h⟩
end Go.Proofs.YtphnahabonfmmaaGreatDoor.D
namespace Go.Proofs.YtphnahabonfmmaaGreatDoor.D
open Go.RowKit U V
set_option linter.unusedVariables false

section
variable {R F : Nat} {w w' : World} {g0 g1 f : Int} {vd vm : Value} {d m : List Int}
theorem own_elsewhere {base i : Nat} {e : TypeId} {k : IntKind} {v u : Value} {l : List Int} (h : U.Own w base e k v l) (hF : ∀ g, v.ownBlock = some g → g ≠ F) : U.Own (w.setCell ⟨F, i, none⟩ u) base e k v l := by
  refine ⟨h.1, ?_⟩
  rcases h.2 with h | ⟨g, cap, cur, rfl, hbg, hg, rest⟩
  · exact .inl h
  · exact .inr ⟨g, cap, cur, rfl, hbg, by rw [Below.heap_setCell _ _ _ _ (by exact hF g rfl)]; exact hg, rest⟩
theorem Rs.else_ (h : Rs R w g0 g1 vd vm f d m) (hF : R ≠ F) (hd : ∀ g, vd.ownBlock = some g → g ≠ F) (hm : ∀ g, vm.ownBlock = some g → g ≠ F) {i : Nat} {u : Value} : Rs R (w.setCell ⟨F, i, none⟩ u) g0 g1 vd vm f d m :=
  ⟨by rw [Below.heap_setCell _ _ _ _ (by exact hF)]; exact h.1, own_elsewhere h.2.1 hd, own_elsewhere h.2.2.1 hm, h.2.2.2⟩
theorem Rs.small (h : Rs R w g0 g1 vd vm f d m) : (∀ g, vd.ownBlock = some g → g ≠ w.heap.size) ∧ ∀ g, vm.ownBlock = some g → g ≠ w.heap.size :=
  ⟨fun g hg => by have := (own_block h.2.1 hg).2; omega, fun g hg => by have := (own_block h.2.2.1 hg).2; omega⟩
end
/-- A place of two numbers. -/
def Two (w : World) (p : Nat) (x y : Int) : Prop := w.cell? ⟨p, 0, none⟩ = some (.int .i64 x) ∧ w.cell? ⟨p, 1, none⟩ = some (.int .i64 y) ∧ w.frozen? ⟨p, 0, none⟩ = false ∧ w.frozen? ⟨p, 1, none⟩ = false
theorem Two.bel {w w' : World} {p : Nat} {x y : Int} (h : Two w p x y) (hb : Bel w w') : Two w' p x y :=
  ⟨cell_bel h.1 hb, cell_bel h.2.1 hb, (Below.frozen hb (p := ⟨p, 0, none⟩) (cell_block h.1)).trans h.2.2.1, (Below.frozen hb (p := ⟨p, 1, none⟩) (cell_block h.2.1)).trans h.2.2.2⟩
theorem Two.bel' {w w' : World} {p B : Nat} {x y : Int} (h : Two w p x y) (hb : Below B w w') (hp : p < B) : Two w' p x y :=
  ⟨(Below.cell hb (p := ⟨p, 0, none⟩) hp).trans h.1, (Below.cell hb (p := ⟨p, 1, none⟩) hp).trans h.2.1, (Below.frozen hb (p := ⟨p, 0, none⟩) hp).trans h.2.2.1, (Below.frozen hb (p := ⟨p, 1, none⟩) hp).trans h.2.2.2⟩
theorem Two.new (w : World) (t : TypeId) (x y : Int) : Two (w.alloc (.cells #[.int .i64 x, .int .i64 y] t)) w.heap.size x y := by
  refine ⟨?_, ?_, ?_, ?_⟩ <;> simp [go_sem]
theorem Two.other {w : World} {p q : Nat} {x y : Int} (h : Two w p x y) (hne : p ≠ q) (o : Nat) (v : Value) : Two (w.setCell ⟨q, o, none⟩ v) p x y := by
  obtain ⟨h1, h2, h3, h4⟩ := h
  refine ⟨?_, ?_, ?_, ?_⟩ <;> simp [go_sem, hne, h1, h2, h3, h4]
theorem Two.set {w : World} {p : Nat} {x y : Int} (h : Two w p x y) (a b : Int) : Two ((w.setCell ⟨p, 0, none⟩ (.int .i64 a)).setCell ⟨p, 1, none⟩ (.int .i64 b)) p a b := by
  obtain ⟨h1, h2, h3, h4⟩ := h
  refine ⟨?_, ?_, ?_, ?_⟩ <;> simp [go_sem, h1, h2, h3, h4]
theorem Two.drew {w : World} {p : Nat} {x y : Int} (h : Two w p x y) : Two w.drew p x y := h
theorem Two.far {w w' : World} {p : Nat} {x y : Int} {row : Option Nat} (h : Two w p x y) (hg : w.grownBy w' row) (hne : some p ≠ row) : Two w' p x y := by
  obtain ⟨h1, h2, h3, h4⟩ := h
  have hlt : p < w.heap.size := cell_block h1
  exact ⟨(hg.cell_far ⟨p, 0, none⟩ hlt hne).trans h1, (hg.cell_far ⟨p, 1, none⟩ hlt hne).trans h2, (hg.frozen_far ⟨p, 0, none⟩ hlt hne).trans h3, (hg.frozen_far ⟨p, 1, none⟩ hlt hne).trans h4⟩

end Go.Proofs.YtphnahabonfmmaaGreatDoor.D
namespace Go.Proofs.YtphnahabonfmmaaGreatDoor.V
open Go.RowKit U
set_option linter.unusedVariables false

theorem hi50 : (Tryz.prog.info? 138).map (·.size) = some 256 := by kernel_rfl
theorem hv50 (w : World) : (zeroValue 138).run Tryz.prog w = .ok (.agg (Array.replicate 256 (.bool false))) w := by kernel_rfl
section
variable {P : Program} {w : World}
theorem wpl_store_row {ops : Array Oper} {rest : List Oper} {o : Oper} {a : Act} {Q : Exit → Act → World → Prop} (hgd : o.guard = none) (ty : TypeId) (x y : Operand) (ho : o.op = .store ty x y)
    (g : Nat) (cells : Array Value) (hx : a.eval x = .pointer (some ⟨g, 0, none⟩)) (hy : a.eval y = .agg cells)
    (t : TypeId) (old : Array Value) (w' : World) (hg : w'.heap.size = g) (hw : w = w'.alloc (.cells old t)) (hi : (P.info? ty).map (·.size) = some cells.size)
    (hold : old.size = cells.size) (h1 : cells.all (·.oneCell') = true)
    (h : wpList P ops Q rest (a.put o.dst undef) (w'.alloc (.cells cells t))) : wpList P ops Q (o :: rest) a w := by
  subst hg
  subst hw
  refine wpList_plain hgd fun K hK => ?_
  refine wp_store_row ty x y ho w'.heap.size cells hx hy t old (heap_alloc_last w' _) hi hold h1 ?_
  rw [World.setRow_alloc_new]
  exact hK _ _ h
end
def cutS : ByteArray := ⟨#[36, 40, 44, 41, 45]⟩
set_option maxHeartbeats 4000000 in
set_option maxRecDepth 1000000 in
theorem set_is (w : World) : Calls Tryz.prog 95 #[.string cutS] w fun e w' => e = .returned (.tuple #[.agg (Lib.setCells cutS.data.toList), .bool true]) ∧ w' = w.alloc (.cells (Lib.setCells cutS.data.toList) 138) := by
  have hv := hv50
  obtain ⟨chars, hch⟩ : ∃ c, cutS = c := ⟨_, rfl⟩
  have hsz0 : chars.size = 5 := by rw [← hch]; rfl
  have HA : Hid (∀ (j : Nat) b, chars.data.toList[j]? = some b → b.toNat < 128) := Lib.hid (by
    rw [← hch]
    intro j b h
    have : b ∈ cutS.data.toList := List.mem_of_getElem? h
    have k : ∀ b ∈ cutS.data.toList, b.toNat < 128 := by decide
    exact k b this)
  rw [hch]
  have hs : chars.size < 4294967281 := by omega
  clear hch hsz0
  go_enter Tryz.func95, Tryz.ntmps95
  go_wp2
  rw [← Lib.setCells_nil]
  go_loopg [4] chars.size (fun g s4 wx => ∃ i : Nat, i + g = chars.size ∧ s4 = .int .i64 i ∧ wx = w.alloc (.cells (Lib.setCells (chars.data.toList.take i)) 138))
  case atStart => exact ⟨0, by omega, rfl, rfl⟩
  case round =>
    obtain ⟨i, hig, rfl, rfl⟩ := hrel
    cases gk with
    | zero =>
      obtain rfl : i = chars.size := by omega
      have hiz : ¬ ((chars.size : Int) < (chars.size : Int)) := by omega
      rw [show chars.data.toList.take chars.size = chars.data.toList from List.take_of_length_le (by rw [← Lib.size_eq]; exact Nat.le_refl _)]
      have hsz := Lib.hid (Lib.setCells_size chars.data.toList)
      have h1 := Lib.hid (Lib.setCells_one chars.data.toList)
      generalize hV : Lib.setCells chars.data.toList = V at hsz h1 ⊢
      replace hV := Lib.hid hV
      have hi : Hid ((Tryz.prog.info? 138).map (·.size) = some V.size) := Lib.hid (by rw [hsz.out]; exact hi50)
      go_wp2_with (first
        | ((with_reducible (show wpList _ _ _ (Oper.mk _ (Op.load 138 _) _ _ _ _ :: _) _ _)); refine wpList_load_row rfl 138 _ rfl w.heap.size rfl 138 V (0, 0) _ (heap_alloc_new w _) Tryz.underlying138 rfl hi.out ?_)
        | ((with_reducible (show wpList _ _ _ (Oper.mk _ (Op.store 138 _ _) _ _ _ _ :: _) _ _)); refine wpl_store_row rfl 138 _ _ rfl w.heap.size V rfl rfl 138 V w rfl rfl hi.out rfl h1.out ?_)
        | fail)
      have hld := run_loadVar_new (P := Tryz.prog) w 138 V 256 4 (by kernel_rfl) hi.out
      refine bodyPost_ret (v := .tuple #[.agg V, .bool true]) ?_ rfl ⟨by rw [hV.out], by rw [hV.out]⟩
      rw [results_cell_tmp rfl]
      simp [asAddr, Result.andThen, hld, Act.put]
    | succ g =>
      have hi : i < chars.size := by omega
      have hiz : (i : Int) < (chars.size : Int) := by omega
      obtain ⟨x, hx⟩ : ∃ x : UInt8, chars[i]'hi = x := ⟨_, rfl⟩
      have hxl : chars.data.toList[i]? = some x := by rw [← hx]; exact Lib.data_getElem? chars i hi
      have hx128 : ¬ ((128 : Int) ≤ (x.toNat : Int)) := by have := HA.out i x hxl; omega
      have hx256 : (x.toNat : Int) < 256 := by have := HA.out i x hxl; omega
      have hcell := Lib.setCells_at (chars.data.toList.take i) x
      have Hx : Hid (chars.data.toList[i]? = some x) := Lib.hid hxl
      clear hxl
      go_wp2
      go_roundg g
      case measure => omega
      case rel => exact ⟨i + 1, by omega, by first | rfl | simp, by rw [List.take_add_one, Hx.out]; simp only [Option.toList]; rw [Lib.setCells_snoc]⟩

theorem set_holds (b k : Nat) (v : Bool) (w : World) (hk : k < 256) (hc : w.cell? ⟨b, k, none⟩ = some (.bool v)) :
    Calls Tryz.prog 115 #[.pointer (some ⟨b, 0, none⟩), .int .u8 k] w fun e w' => e = .returned (.bool v) ∧ w = w' := by
  have hk' : (k : Int) < 256 := by omega
  go_enter Tryz.func115, Tryz.ntmps115
  go_wp2
  go_ret
  exact ⟨rfl, rfl⟩

/-- A set of these bytes lies in block b. -/
def SetIn (w : World) (b : Nat) : Prop := ∀ k : Nat, k < 256 → w.cell? ⟨b, k, none⟩ = some (.bool (isHead k))
theorem set_in (w : World) : SetIn (w.alloc (.cells (Lib.setCells cutS.data.toList) 138)) w.heap.size := fun k hk => by
  have h1 := World.cell?_alloc_mark w (Lib.setCells cutS.data.toList) 138 (0, 0) k
  refine h1.trans ?_
  have h2 := Lib.setCells_at cutS.data.toList (UInt8.ofNat k)
  have e : (UInt8.ofNat k).toNat = k := by simp; omega
  rw [e] at h2
  rw [h2]
  have h3 : ∀ k, k < 256 → cutS.data.toList.contains (UInt8.ofNat k) = isHead k := by decide +kernel
  rw [h3 k hk]

/-- What is left of a list behind the bytes of the set, as a slice. -/
def RestIs (w : World) (t : List Int) (v : Value) : Prop := ∃ A m c, v = .slice A m c ∧ (restOf t).length = m ∧ m ≤ c ∧ Rd w w.heap.size .u8 A (restOf t) ∧ (A = none → c = 0)
theorem RestIs.bel {w w' : World} {t : List Int} {v : Value} (h : RestIs w t v) (hb : Bel w w') : RestIs w' t v := by
  obtain ⟨A, m, c, h1, h2, h3, h4, h5⟩ := h
  exact ⟨A, m, c, h1, h2, h3, (h4.bel hb).here, h5⟩
def RestPost (w : World) (t : List Int) (e : Ending) (w' : World) : Prop := ∃ v, e = .returned v ∧ RestIs w' t v ∧ Bel w w'
def TrimRel (W : World) (t : List Int) (v : Value) : Prop := ∃ r A m c, v = .slice A m c ∧ r.length = m ∧ m ≤ c ∧ Rd W W.heap.size .u8 A r ∧ (A = none → c = 0) ∧ restOf r = restOf t ∧ ∀ x ∈ r, 0 ≤ x ∧ x < 256
theorem rest_yes {x : Int} {r : List Int} (h : isHead x = true) : restOf (x :: r) = restOf r := by simp [restOf, List.dropWhile, h]
theorem rest_no {x : Int} {r : List Int} (h : isHead x = false) : restOf (x :: r) = x :: r := by simp [restOf, List.dropWhile, h]

def lenOf (v : Value) : Nat := match v with | .slice _ n _ => n | _ => 0
set_option maxHeartbeats 1000000 in
theorem trim_ascii (A : Option Addr) (n c b : Nat) (t : List Int) (w : World) (hA : Rd w w.heap.size .u8 A t) (hn : t.length = n) (hc : n ≤ c) (h0 : A = none → c = 0) (hb : ∀ x ∈ t, 0 ≤ x ∧ x < 256) (hS : SetIn w b) :
    Calls Tryz.prog 96 #[.slice A n c, .pointer (some ⟨b, 0, none⟩)] w fun e w' => ∃ v, e = .returned v ∧ RestIs w t v ∧ w = w' := by
  have HI : Hid (TrimRel w t (.slice A n c)) := Lib.hid ⟨t, A, n, c, rfl, hn, hc, hA, h0, rfl, hb⟩
  have HS := Lib.hid hS
  clear hA hn hc h0 hb hS
  go_enter Tryz.func96, Tryz.ntmps96
  go_wp2
  go_loop [0] (fun v => TrimRel w t v) (fun v => lenOf v)
  case atStart => exact HI.out
  case round =>
    clear HI
    obtain ⟨r, A1, m, d, rfl, hm, hd, hr, hnil, hrest, hb⟩ := hrel
    rcases r with _ | ⟨x, r⟩
    · obtain rfl : m = 0 := hm.symm
      have hR : Hid (RestIs w t (.slice none 0 0)) := Lib.hid ⟨none, 0, 0, rfl, by rw [← hrest]; rfl, by omega, by rw [← hrest]; exact Rd.nil, fun _ => rfl⟩
      clear hr hnil hrest hb hm
      go_wp2
      go_ret
      exact ⟨_, rfl, hR.out, rfl⟩
    · obtain ⟨m, rfl⟩ : ∃ k, m = k + 1 := ⟨m - 1, by simp at hm; omega⟩
      obtain ⟨g, o, rfl, hg, hcell⟩ := hr 0 x rfl
      rw [Nat.add_zero] at hcell
      obtain ⟨k, rfl⟩ : ∃ k : Nat, x = k := ⟨x.toNat, by have := (hb x (by simp)).1; omega⟩
      have hk : k < 256 := by have := (hb k (by simp)).2; omega
      obtain ⟨v, hv⟩ : ∃ v, isHead (k : Int) = v := ⟨_, rfl⟩
      have HC : Hid (w.cell? ⟨b, k, none⟩ = some (.bool v)) := Lib.hid (by rw [← hv]; exact HS.out k hk)
      have hpos : (0 : Int) < ((m + 1 : Nat) : Int) := by omega
      rcases v with _ | _
      · have hR : Hid (RestIs w t (.slice (some ⟨g, o, none⟩) (m + 1) d)) := Lib.hid ⟨_, _, _, rfl, by rw [← hrest, rest_no hv]; exact hm, hd, by rw [← hrest, rest_no hv]; exact hr, fun e => by cases e⟩
        have hne : (((m + 1 : Nat) : Int) == 0) = false := by simp; omega
        clear hr hnil hrest hb hm hv
        go_wp2_with (go_at_call 115; (with_reducible refine (set_holds _ _ _ _ hk HC.out).mono ?_); rintro e w' ⟨rfl, rfl⟩)
        go_ret
        exact ⟨_, rfl, hR.out, rfl⟩
      · rw [rest_yes hv] at hrest
        have hm' : r.length = m := by simpa using hm
        have hb' : ∀ x ∈ r, 0 ≤ x ∧ x < 256 := fun x hx => hb x (by simp [hx])
        by_cases h1 : d = 1
        · subst h1
          have hm0 : m = 0 := by omega
          subst hm0
          have hr0 : r = [] := List.eq_nil_of_length_eq_zero hm'
          subst hr0
          have hR : ∀ A', A' ≠ none → TrimRel w t (.slice A' 0 0) := fun A' ha => ⟨[], A', 0, 0, rfl, rfl, by omega, Rd.nil, fun _ => rfl, hrest, by simp⟩
          have HR := Lib.hid hR
          clear hr hnil hrest hb hm hv hR hm' hb'
          go_wp2_with (go_at_call 115; (with_reducible refine (set_holds _ _ _ _ hk HC.out).mono ?_); rintro e w' ⟨rfl, rfl⟩)
          go_round
          case rel => exact HR.out _ (by simp)
          case measure => simp [lenOf]
        · obtain ⟨d, rfl⟩ : ∃ k, d = k + 1 := ⟨d - 1, by omega⟩
          have hd' : m ≤ d := by omega
          have hd0 : (1 : Int) ≤ ((d + 1 : Nat) : Int) := by omega
          have hne : ¬ ((d + 1 : Nat) = 1) := by omega
          have HR : Hid (TrimRel w t (.slice (some ⟨g, o + 1, none⟩) m d)) := Lib.hid ⟨r, _, m, d, rfl, hm', hd', by have := hr.drop (k := 1); simpa using this, (fun e => by cases e), hrest, hb'⟩
          clear hr hnil hrest hb hm hv hm' hb'
          go_wp2_with (go_at_call 115; (with_reducible refine (set_holds _ _ _ _ hk HC.out).mono ?_); rintro e w' ⟨rfl, rfl⟩)
          go_round
          case rel => exact HR.out
          case measure => simp [lenOf]

theorem set_of (S : ByteArray) (V : Array Value) (w : World) (h : cutS = S) (hV : Lib.setCells cutS.data.toList = V) : Calls Tryz.prog 95 #[.string S] w fun e w' => e = .returned (.tuple #[.agg V, .bool true]) ∧ w.alloc (.cells V 138) = w' := by
  subst h hV
  refine (set_is w).mono ?_
  rintro e w' ⟨rfl, rfl⟩
  exact ⟨rfl, rfl⟩
set_option maxRecDepth 1000000 in
set_option maxHeartbeats 1000000 in
theorem trim_is (A : Option Addr) (n c : Nat) (t : List Int) (S : ByteArray) (w : World) (hS : cutS = S) (hA : Rd w w.heap.size .u8 A t) (hn : t.length = n) (hc : n ≤ c) (h0 : A = none → c = 0) (hb : ∀ x ∈ t, 0 ≤ x ∧ x < 256) :
    Calls Tryz.prog 63 #[.slice A n c, .string S] w (RestPost w t) := by
  have HS := Lib.hid hS
  have hsz : S.size = 5 := by rw [← hS]; rfl
  have hs1 : S.toList.isEmpty = false := by rw [← hS, ByteArray.toList_eq]; rfl
  have hs2 : (S.toList == []) = false := by rw [← hS, ByteArray.toList_eq]; rfl
  have HB := Lib.hid hb
  have HN := Lib.hid hn
  have HA := Lib.hid hA
  have H0 := Lib.hid h0
  clear hS hb hn hA h0
  rcases n with _ | n
  · obtain rfl : t = [] := List.eq_nil_of_length_eq_zero HN.out
    go_enter Tryz.func63, Tryz.ntmps63
    go_wp2
    go_ret
    exact ⟨_, rfl, ⟨none, 0, 0, rfl, rfl, by omega, Rd.nil, fun _ => rfl⟩, Bel.refl _⟩
  · have hne : (((n + 1 : Nat) : Int) == 0) = false := by simp; omega
    have hq := Lib.setCells_size cutS.data.toList
    have h1 := Lib.hid (Lib.setCells_one cutS.data.toList)
    have hSI := Lib.hid (fun w => set_in w)
    generalize hV : Lib.setCells cutS.data.toList = V at hq h1 hSI
    replace hV := Lib.hid hV
    have hq2 := Lib.hid hq
    have hi : Hid ((Tryz.prog.info? 138).map (·.size) = some V.size) := Lib.hid (by rw [hq2.out]; exact hi50)
    clear hq
    go_enter Tryz.func63, Tryz.ntmps63
    have hv := hv50
    go_wp2_with fail
    with_reducible refine (set_of S V w HS.out hV.out).mono ?_
    rintro e w1 ⟨rfl, rfl⟩
    have hsc := run_storeCells_new (P := Tryz.prog) (w.alloc (.cells V 138)) 138 (Array.replicate 256 (.bool false)) V hi.out (by rw [hq2.out]; simp) h1.out
    rw [show (w.alloc (.cells V 138)).heap.size = w.heap.size + 1 by simp] at hsc
    go_wp2_with fail
    clear hsc
    have hw2 : Bel w ((w.alloc (.cells V 138)).alloc (.cells V 138)) := ((Bel.refl w).alloc _).alloc _
    have hSI2 := hSI.out (w.alloc (.cells V 138))
    rw [show (w.alloc (.cells V 138)).heap.size = w.heap.size + 1 by simp] at hSI2
    have HSI := Lib.hid hSI2
    have HW2 := Lib.hid hw2
    clear hSI2 hw2
    with_reducible refine (trim_ascii A (n + 1) c (w.heap.size + 1) t _ (HA.out.bel HW2.out).here HN.out hc H0.out HB.out HSI.out).mono ?_
    rintro e w2 ⟨v, rfl, hr, rfl⟩
    have HR := Lib.hid hr
    clear hr
    go_wp2_with fail
    go_ret
    exact ⟨_, rfl, HR.out, HW2.out⟩
end Go.Proofs.YtphnahabonfmmaaGreatDoor.V
namespace Go.Proofs.YtphnahabonfmmaaGreatDoor.V
open Go.RowKit U
set_option linter.unusedVariables false

def Quiet (w : World) (b : Bool) (e : Ending) (w' : World) : Prop := e = .returned (.bool b) ∧ ∃ m, w' = w.drewN m

def SameRel (W : World) (xs ys : List Int) (i : Value) (w : World) : Prop :=
  ∃ k m : Nat, i = .int .i64 k ∧ k ≤ xs.length ∧ w = W.drewN m ∧ xs.take k = ys.take k

theorem take_more {xs ys : List Int} {k : Nat} {x : Int} (h : xs.take k = ys.take k) (hx : xs[k]? = some x) (hy : ys[k]? = some x) : xs.take (k + 1) = ys.take (k + 1) := by
  rw [List.take_add_one, List.take_add_one, h, hx, hy]

theorem lex_same : ∀ xs : List Int, lexB xs xs = false
  | [] => rfl
  | x :: xs => by rw [lexB, if_pos rfl]; exact lex_same xs
theorem lex_at : ∀ {k : Nat} {xs ys : List Int} {x y : Int}, xs.take k = ys.take k → xs[k]? = some x → ys[k]? = some y → x ≠ y → lexB xs ys = decide (x < y)
  | 0, a :: xs, b :: ys, x, y, _, hx, hy, hne => by
    simp at hx hy
    subst hx hy
    rw [lexB, if_neg hne]
  | k + 1, a :: xs, b :: ys, x, y, h, hx, hy, hne => by
    simp at h hx hy
    obtain ⟨rfl, h⟩ := h
    rw [lexB, if_pos rfl]
    exact lex_at h hx hy hne
  | k, [], ys, x, y, _, hx, _, _ => by simp at hx
  | k, xs, [], x, y, _, _, hy, _ => by simp at hy

set_option maxHeartbeats 1000000 in
theorem less_is (A B : Option Addr) (n m c d : Nat) (xs ys : List Int) (B1 B2 : Nat) (b : Bool) (w : World) (hA : Rd w B1 .u8 A xs) (hB : Rd w B2 .u8 B ys) (hn : xs.length = n) (hm : ys.length = m) (hn' : n ≤ 1000) (hb : lessB xs ys = b) :
    Calls Tryz.prog 28 #[.slice A n c, .slice B m d] w (Quiet w b) := by
  subst hb
  have HN := Lib.hid hn
  have HM := Lib.hid hm
  have HA := Lib.hid hA
  have HB := Lib.hid hB
  clear hn hm hA hB
  by_cases hnm : n = m
  · subst hnm
    have hq : ((n : Int) != (n : Int)) = false := by simp
    have hl : lessB xs ys = lexB xs ys := if_pos (HN.out.trans HM.out.symm)
    rw [hl]
    clear hl
    go_enter Tryz.func28, Tryz.ntmps28
    go_wp2
    go_loopw [5] (fun i wr => SameRel w xs ys i wr) (fun i _ => n - (intOf i).toNat)
    case atStart => exact ⟨0, 0, rfl, Nat.zero_le _, rfl, by simp⟩
    case round =>
      obtain ⟨k, q, rfl, hk, rfl, heq⟩ := hrel
      rw [HN.out] at hk
      have HE := Lib.hid heq
      clear heq
      by_cases hlt : k < n
      · obtain ⟨x, hx⟩ : ∃ x, xs[k]? = some x := ⟨xs[k]'(by rw [HN.out]; exact hlt), by simp⟩
        obtain ⟨y, hy⟩ : ∃ y, ys[k]? = some y := ⟨ys[k]'(by rw [HM.out]; exact hlt), by simp⟩
        obtain ⟨g1, o1, rfl, hg1, hc1⟩ := HA.out k x hx
        obtain ⟨g2, o2, rfl, hg2, hc2⟩ := HB.out k y hy
        have HX := Lib.hid hx
        have HY := Lib.hid hy
        clear hx hy
        have hi1 : (0 : Int) ≤ (k : Int) := by omega
        have hi2 : (k : Int) < (n : Int) := by omega
        by_cases hxy : x = y
        · subst hxy
          have hne : (x != x) = false := by simp
          go_wp2
          go_quiet (fail)
          go_wp2
          go_roundw
          case rel => exact ⟨k + 1, _, by go_num, by rw [HN.out]; omega, rfl, take_more HE.out HX.out HY.out⟩
          case measure => simp [intOf]; omega
        · have hne : (x != y) = true := by simpa using hxy
          have HD := Lib.hid (lex_at HE.out HX.out HY.out hxy)
          go_wp2
          go_quiet (fail)
          go_wp2
          go_quiet (fail)
          go_wp2
          go_ret
          exact ⟨by rw [HD.out]; rfl, _, by rw [World.drewN_drewN, World.drewN_drewN]⟩
      · have hd : xs = ys := by
          have h1 := HE.out
          obtain rfl : k = n := by omega
          rwa [List.take_of_length_le (by rw [HN.out]; omega), List.take_of_length_le (by rw [HM.out]; omega)] at h1
        have HD : Hid (lexB xs ys = false) := Lib.hid (by rw [hd]; exact lex_same _)
        clear hd
        go_wp2
        go_ret
        exact ⟨by rw [HD.out]; rfl, _, rfl⟩
  · have hq : ((n : Int) != (m : Int)) = true := by simp; omega
    have hl : lessB xs ys = decide ((n : Int) < (m : Int)) := by
      unfold lessB
      rw [HN.out, HM.out, if_neg hnm, decide_eq_decide]
      omega
    rw [hl]
    clear hl
    go_enter Tryz.func28, Tryz.ntmps28
    go_wp2
    all_goals go_ret
    all_goals exact ⟨by first | rfl | (refine ret_bool ?_; simp; try omega), 0, rfl⟩

end Go.Proofs.YtphnahabonfmmaaGreatDoor.V
namespace Go.Proofs.YtphnahabonfmmaaGreatDoor.V
open Go.RowKit U
set_option linter.unusedVariables false

theorem bs_back {l : List Int} (h : ∀ x ∈ l, 0 ≤ x ∧ x < 256) : (bs l).map (fun b => (b.toNat : Int)) = l := by
  unfold bs
  rw [List.map_map]
  conv => rhs; rw [← List.map_id l]
  apply List.map_congr_left
  intro x hx
  have := h x hx
  simp only [Function.comp, id]
  rw [toNat_of this.1 this.2]
  omega
theorem str_inj {a b : List Int} (ha : ∀ x ∈ a, 0 ≤ x ∧ x < 256) (hb : ∀ x ∈ b, 0 ≤ x ∧ x < 256) (h : str a = str b) : a = b := by
  have e : bs a = bs b := by
    have := congrArg (fun s : ByteArray => s.data.toList) h
    simpa [str] using this
  rw [← bs_back ha, e, bs_back hb]
theorem str_beq {a b : List Int} (ha : ∀ x ∈ a, 0 ≤ x ∧ x < 256) (hb : ∀ x ∈ b, 0 ≤ x ∧ x < 256) : ((str a).toList == (str b).toList) = decide (a = b) := by
  rw [ByteArray.toList_eq, ByteArray.toList_eq]
  by_cases h : a = b
  · subst h; simp
  · rw [decide_eq_false h, beq_eq_false_iff_ne]
    intro e
    exact h (str_inj ha hb (by obtain e' := congrArg List.toArray e; simpa [ByteArray.ext_iff] using e'))

theorem equal_is (g1 o1 g2 o2 n m c d : Nat) (xs ys : List Int) (b : Bool) (w : World) (hx : Rd w w.heap.size .u8 (some ⟨g1, o1, none⟩) xs) (hy : Rd w w.heap.size .u8 (some ⟨g2, o2, none⟩) ys)
    (hn : xs.length = n) (hm : ys.length = m) (bx : ∀ x ∈ xs, 0 ≤ x ∧ x < 256) (by' : ∀ x ∈ ys, 0 ≤ x ∧ x < 256) (hb : decide (xs = ys) = b) :
    Calls Tryz.prog 136 #[.slice (some ⟨g1, o1, none⟩) n c, .slice (some ⟨g2, o2, none⟩) m d] w fun e w' => e = .returned (.bool b) ∧ w = w' := by
  have r1 := run_str_bytes (P := Tryz.prog) (c := c) w 33 9 5 Tryz.underlying33 Tryz.underlying5 Tryz.underlying9 hx hn bx
  have r2 := run_str_bytes (P := Tryz.prog) (c := d) w 33 9 5 Tryz.underlying33 Tryz.underlying5 Tryz.underlying9 hy hm by'
  have hq : ((str xs).toList == (str ys).toList) = b := (str_beq bx by').trans hb
  clear hx hy hn hm bx by' hb
  go_enter Tryz.func136, Tryz.ntmps136
  go_wp2
  go_ret
  exact ⟨rfl, rfl⟩

theorem prefix_is (A : Option Addr) (g2 o2 n m c d : Nat) (xs ys : List Int) (b : Bool) (w : World) (hx : Rd w w.heap.size .u8 A xs) (hy : Rd w w.heap.size .u8 (some ⟨g2, o2, none⟩) ys)
    (hn : xs.length = n) (hm : ys.length = m) (hm0 : 0 < m) (hc : n ≤ c) (bx : ∀ x ∈ xs, 0 ≤ x ∧ x < 256) (by' : ∀ x ∈ ys, 0 ≤ x ∧ x < 256) (hb : ys.isPrefixOf xs = b) :
    Calls Tryz.prog 119 #[.slice A n c, .slice (some ⟨g2, o2, none⟩) m d] w fun e w' => e = .returned (.bool b) ∧ w = w' := by
  by_cases hlt : n < m
  · have hq : decide ((m : Int) ≤ (n : Int)) = false := decide_eq_false (by omega)
    obtain rfl : b = false := by
      rw [← hb, ← Bool.not_eq_true, List.isPrefixOf_iff_prefix]
      intro h
      have := h.length_le
      omega
    clear hx hy hn hm hm0 hc bx by' hb
    go_enter Tryz.func119, Tryz.ntmps119
    go_wp2
    go_ret
    exact ⟨rfl, rfl⟩
  · have hle : m ≤ n := by omega
    obtain ⟨g1, o1, rfl, _, _⟩ := hx.isSome (by omega)
    have hq : decide ((m : Int) ≤ (n : Int)) = true := decide_eq_true (by omega)
    have hq2 : (m : Int) ≤ (n : Int) := by omega
    have hq3 : (m : Int) ≤ (c : Int) := by omega
    have hb' : decide (xs.take m = ys) = b := by
      rw [← hb, Bool.eq_iff_iff, decide_eq_true_iff, List.isPrefixOf_iff_prefix, List.prefix_iff_eq_take, hm]
      exact eq_comm
    have HE := Lib.hid (equal_is g1 o1 g2 o2 m m c d (xs.take m) ys b w hx.take hy (by rw [List.length_take]; omega) hm (fun x hx => bx x (List.mem_of_mem_take hx)) by' hb')
    clear hx hy hn hm hm0 hc bx by' hb hb' hlt
    go_enter Tryz.func119, Tryz.ntmps119
    go_wp2_with (go_at_call 136; (with_reducible refine HE.out.mono ?_); rintro e w' ⟨rfl, rfl⟩)
    go_ret
    exact ⟨rfl, rfl⟩

/-- A new list of a set's last bytes. -/
def LastPost (w : World) (l : List Int) (n : Nat) (e : Ending) (w' : World) : Prop := ∃ g cap, e = .returned (.slice (some ⟨g, 0, none⟩) n cap) ∧ Rd w' w'.heap.size .u8 (some ⟨g, 0, none⟩) l ∧ Bel w w'
theorem lasts_two (w : World) (hT : Tb w) : Calls Tryz.prog 118 #[.int .i64 2] w (LastPost w [33, 69] 2) := by
  have HF := Lib.hid (final_yes 2 69 w hT (by omega) (by omega) (by decide))
  clear hT
  go_enter Tryz.func118, Tryz.ntmps118
  go_wp2_with (go_at_call 22; (with_reducible refine HF.out.mono ?_); rintro e w' ⟨rfl, rfl⟩)
  go_ret
  exact ⟨w.heap.size, _, rfl, (rd_lit (l := [33, 69]) rfl).here, (Bel.refl w).alloc _⟩
theorem lasts_is (k n : Nat) (l : List Int) (w : World) (hT : Tb w) (h0 : 1 ≤ k) (h1 : k ≤ 12) (hl : lastT.getD k [] = l) (hn : l.length = n) :
    Calls Tryz.prog 118 #[.int .i64 k] w (LastPost w l n) := by
  subst hl hn
  by_cases h2 : k = 2
  · subst h2
    exact lasts_two w hT
  · obtain ⟨z, hz, hl⟩ : ∃ z, lastB k = z ∧ lastT.getD k [] = [z] := by
      have : k = 1 ∨ k = 3 ∨ k = 4 ∨ k = 5 ∨ k = 6 ∨ k = 7 ∨ k = 8 ∨ k = 9 ∨ k = 10 ∨ k = 11 ∨ k = 12 := by omega
      rcases this with rfl | rfl | rfl | rfl | rfl | rfl | rfl | rfl | rfl | rfl | rfl <;> exact ⟨_, rfl, rfl⟩
    rw [hl]
    have HF := Lib.hid (final_yes k z w hT (by omega) (by omega) hz)
    have hq : ((k : Int) == 2) = false := by simp; omega
    clear hT hz hl h0 h1 h2
    go_enter Tryz.func118, Tryz.ntmps118
    go_wp2_with (go_at_call 22; (with_reducible refine HF.out.mono ?_); rintro e w' ⟨rfl, rfl⟩)
    go_ret
    exact ⟨w.heap.size, _, rfl, (rd_lit (l := [z]) rfl).here, (Bel.refl w).alloc _⟩
theorem lasts_fine (k : Nat) (h0 : 1 ≤ k) (h1 : k ≤ 12) : ∃ l n, lastT.getD k [] = l ∧ l.length = n ∧ 0 < n ∧ ∀ x ∈ l, 0 ≤ x ∧ x < 256 := by
  have : k = 1 ∨ k = 2 ∨ k = 3 ∨ k = 4 ∨ k = 5 ∨ k = 6 ∨ k = 7 ∨ k = 8 ∨ k = 9 ∨ k = 10 ∨ k = 11 ∨ k = 12 := by omega
  rcases this with rfl | rfl | rfl | rfl | rfl | rfl | rfl | rfl | rfl | rfl | rfl | rfl <;> exact ⟨_, _, rfl, rfl, by decide, by decide⟩

def AmRel (W : World) (rest : List Int) (last : Nat) (r : Nat × Nat) (i : Value) (w : World) : Prop := ∃ k : Nat, i = .int .i64 k ∧ 1 ≤ k ∧ k ≤ last + 1 ∧ amongL rest k (last + 1 - k) = r ∧ Bel W w
def AmPost (w : World) (r : Nat × Nat) (e : Ending) (w' : World) : Prop := e = .returned (.tuple #[.int .i64 r.1, .int .i64 r.2]) ∧ Bel w w'
set_option maxHeartbeats 1000000 in
theorem among_is (A : Option Addr) (n c first last : Nat) (rest : List Int) (r : Nat × Nat) (w : World) (hT : Tb w) (hA : Rd w w.heap.size .u8 A rest) (hn : rest.length = n) (hc : n ≤ c) (hb : ∀ x ∈ rest, 0 ≤ x ∧ x < 256)
    (h1 : 1 ≤ first) (h2 : first ≤ last + 1) (h3 : last ≤ 12) (hr : amongL rest first (last + 1 - first) = r) :
    Calls Tryz.prog 98 #[.slice A n c, .int .i64 first, .int .i64 last] w (AmPost w r) := by
  have HT := Lib.hid hT
  have HA := Lib.hid hA
  have HN := Lib.hid hn
  have HB := Lib.hid hb
  have HI : Hid (AmRel w rest last r (.int .i64 first) w) := Lib.hid ⟨first, rfl, h1, h2, hr, Bel.refl _⟩
  clear hT hA hn hb hr h1 h2
  go_enter Tryz.func98, Tryz.ntmps98
  go_wp2
  go_loopw [8] (fun i wr => AmRel w rest last r i wr) (fun i _ => last + 1 - (intOf i).toNat)
  case atStart => exact HI.out
  case round =>
    clear HI
    obtain ⟨k, rfl, hk1, hk2, hr, hbel⟩ := hrel
    by_cases hlt : k ≤ last
    · obtain ⟨l, m, hl, hm, hm0, bl⟩ := lasts_fine k hk1 (by omega)
      have HL := Lib.hid (lasts_is k m l wr (HT.out.bel hbel) hk1 (by omega) hl hm)
      have hstep : last + 1 - k = (last + 1 - (k + 1)) + 1 := by omega
      rw [hstep, amongL, hl, hm] at hr
      have q1 : (k : Int) ≤ (last : Int) := by omega
      have HBel := Lib.hid hbel
      obtain ⟨b, hb⟩ : ∃ b, l.isPrefixOf rest = b := ⟨_, rfl⟩
      rw [hb] at hr
      have HR := Lib.hid hr
      have HL2 := Lib.hid hb
      have HM := Lib.hid hm
      have BL := Lib.hid bl
      clear hr hl hb hm bl hbel hstep
      go_wp2_with fail
      with_reducible refine HL.out.mono ?_
      rintro e w2 ⟨g, cap, rfl, hrd, hb2⟩
      have HP := Lib.hid (prefix_is A g 0 n m c cap rest l b w2 ((HA.out.bel HBel.out).bel hb2).here hrd HN.out HM.out hm0 hc HB.out BL.out HL2.out)
      have HB2 := Lib.hid (HBel.out.trans hb2)
      clear hrd hb2
      go_wp2_with fail
      with_reducible refine HP.out.mono ?_
      rintro e w3 ⟨rfl, rfl⟩
      clear HP HL
      rcases b with _ | _
      · have HR' : Hid (amongL rest (k + 1) (last + 1 - (k + 1)) = r) := Lib.hid (by have := HR.out; rwa [if_neg (by simp)] at this)
        clear HR
        go_wp2
        go_roundw
        case rel => exact ⟨k + 1, by go_num, by omega, by omega, HR'.out, HB2.out⟩
        case measure => simp [intOf]; omega
      · have HR' : Hid ((k, m) = r) := Lib.hid (by have := HR.out; rwa [if_pos rfl] at this)
        clear HR
        go_wp2
        go_ret2
        exact ⟨by rw [← HR'.out]; rfl, HB2.out⟩
    · have HR' : Hid ((0, 0) = r) := Lib.hid (by rw [show last + 1 - k = 0 by omega, amongL] at hr; exact hr)
      have q1 : ¬ (k : Int) ≤ (last : Int) := by omega
      have HBel := Lib.hid hbel
      clear hr hbel
      go_wp2
      go_ret2
      exact ⟨by rw [← HR'.out]; rfl, HBel.out⟩

/-- The bytes of a constant text, as a row that bears the run-time's mark. -/
theorem rd_mark {w : World} {cs : Array Value} {l : List Int} {k : IntKind} {t : TypeId} {fr : Nat × Nat} (h : cs.toList = l.map (Value.int k)) : Rd (w.alloc (.cells cs t fr)) (w.alloc (.cells cs t fr)).heap.size k (some ⟨w.heap.size, 0, none⟩) l := fun i x hx => by
  refine ⟨w.heap.size, 0, rfl, by simp, ?_⟩
  have e : cs = (l.map (Value.int k)).toArray := by rw [← h]
  have h1 := World.cell?_alloc_mark w cs t fr i
  rw [Nat.zero_add]
  refine h1.trans ?_
  rw [e]
  simp [hx]
theorem among_any (A : Option Addr) (n c first last : Nat) (fi li : Int) (rest : List Int) (r : Nat × Nat) (w : World) (hf : (first : Int) = fi) (hl : (last : Int) = li) (hT : Tb w) (hA : Rd w w.heap.size .u8 A rest) (hn : rest.length = n) (hc : n ≤ c) (hb : ∀ x ∈ rest, 0 ≤ x ∧ x < 256)
    (h1 : 1 ≤ first) (h2 : first ≤ last + 1) (h3 : last ≤ 12) (hr : amongL rest first (last + 1 - first) = r) :
    Calls Tryz.prog 98 #[.slice A n c, .int .i64 fi, .int .i64 li] w (AmPost w r) := by
  subst hf hl
  exact among_is A n c first last rest r w hT hA hn hc hb h1 h2 h3 hr
theorem alone_rest (A : Option Addr) (n c : Nat) (rest : List Int) (r : Nat × Nat) (w : World) (hT : Tb w) (hA : Rd w w.heap.size .u8 A rest) (hn : rest.length = n) (hc : n ≤ c) (hb : ∀ x ∈ rest, 0 ≤ x ∧ x < 256)
    (hr : aloneL rest = r) : Calls Tryz.prog 99 #[.slice A n c] w (AmPost w r) := by
  unfold aloneL at hr
  obtain ⟨b, hp⟩ : ∃ b, [115].isPrefixOf rest = b := ⟨_, rfl⟩
  rw [hp] at hr
  have HT := Lib.hid hT
  have HA := Lib.hid hA
  have HN := Lib.hid hn
  have HB := Lib.hid hb
  have HR := Lib.hid hr
  have HP := Lib.hid hp
  have hrl : ∀ W : World, Rd (W.alloc (.cells #[.int .u8 115] 5 (1, 2))) ((W.alloc (.cells #[.int .u8 115] 5 (1, 2))).heap.size) .u8 (some ⟨W.heap.size, 0, none⟩) [115] := fun W => rd_mark (l := [115]) rfl
  have HRL := Lib.hid hrl
  have hcv := Lib.run_convert_bytes_const (P := Tryz.prog) w 33 5 #[.int .u8 115] 1 1 Tryz.underlying33 Tryz.underlying5
  clear hT hA hn hb hr hp hrl
  go_enter Tryz.func99, Tryz.ntmps99
  go_wp2_with fail
  with_reducible refine (prefix_is A w.heap.size 0 n 1 c 1 rest [115] b _ (HA.out.alloc _).here (HRL.out w) HN.out rfl (by omega) hc HB.out (by simp) HP.out).mono ?_
  rintro e w2 ⟨rfl, rfl⟩
  rcases b with _ | _
  · have HR' : Hid (amongL rest 10 (12 + 1 - 10) = r) := Lib.hid (by have := HR.out; rwa [if_neg (by simp)] at this)
    have HM := Lib.hid (among_any A n c 10 12 10 12 rest r (w.alloc (.cells #[.int .u8 115] 5 (1, 2))) rfl rfl (HT.out.bel ((Bel.refl w).alloc _)) (HA.out.alloc _).here HN.out hc HB.out (by omega) (by omega) (by omega) HR'.out)
    clear HR HR' HP
    go_wp2_with fail
    with_reducible refine HM.out.mono ?_
    rintro e w3 ⟨rfl, hb3⟩
    go_wp2
    go_ret2
    exact ⟨rfl, ((Bel.refl w).alloc _).trans hb3⟩
  · have HR' : Hid ((1, 1) = r) := Lib.hid (by have := HR.out; rwa [if_pos rfl] at this)
    clear HR HP
    go_wp2
    go_ret2
    exact ⟨by rw [← HR'.out]; rfl, (Bel.refl w).alloc _⟩

def TellPost (w : World) (r : Nat × Nat × Nat) (e : Ending) (w' : World) : Prop := e = .returned (.tuple #[.int .i64 r.1, .int .i64 r.2.1, .int .i64 r.2.2]) ∧ Bel w w'
theorem tell_not (hd rest : List Int) (h1 : ¬ hd = [41]) (h2 : ¬ hd = [45]) (h3 : ¬ hd = [40]) (h4 : ¬ hd = [44]) (h5 : ¬ hd = [36, 41]) (h6 : ¬ hd = [36, 45]) (h7 : ¬ hd = [36]) (h8 : ¬ hd = [36, 44]) (h9 : ¬ hd = []) :
    tellL hd rest = (0, 0, 0) := by
  unfold tellL
  rw [if_neg (by simp [h1, h2]), if_neg (by simp [h3, h4]), if_neg (by simp [h5, h6]), if_neg (by simp [h7, h8]), if_neg h9]
set_option maxHeartbeats 2000000 in
set_option maxRecDepth 100000 in
theorem tell_is (A H : Option Addr) (n c nh ch : Nat) (rest hd : List Int) (r : Nat × Nat × Nat) (w : World) (hT : Tb w) (hA : Rd w w.heap.size .u8 A rest) (hn : rest.length = n) (hc : n ≤ c) (hb : ∀ x ∈ rest, 0 ≤ x ∧ x < 256)
    (hcv : (convert 33 9 (.slice H nh ch)).run Tryz.prog w = .ok (.string (str hd)) w) (bh : ∀ x ∈ hd, 0 ≤ x ∧ x < 256) (hr : tellL hd rest = r) :
    Calls Tryz.prog 64 #[.slice H nh ch, .slice A n c] w (TellPost w r) := by
  have HR := Lib.hid hr
  clear hr
  have HM8 := Lib.hid (among_any A n c 1 8 1 8 rest _ w rfl rfl hT hA hn hc hb (by omega) (by omega) (by omega) rfl)
  have HM9 := Lib.hid (among_any A n c 9 9 9 9 rest _ w rfl rfl hT hA hn hc hb (by omega) (by omega) (by omega) rfl)
  have HAl := Lib.hid (alone_rest A n c rest _ w hT hA hn hc hb rfl)
  have tst : ∀ (L : List Int), (∀ x ∈ L, 0 ≤ x ∧ x < 256) → ((str hd).toList == (str L).toList) = decide (hd = L) := fun L hL => str_beq bh hL
  have t1 := tst [41] (by simp)
  have t2 := tst [45] (by simp)
  have t3 := tst [40] (by simp)
  have t4 := tst [44] (by simp)
  have t5 := tst [36, 41] (by simp)
  have t6 := tst [36, 45] (by simp)
  have t7 := tst [36] (by simp)
  have t8 := tst [36, 44] (by simp)
  have t9 := tst [] (by simp)
  have e1 : (str [41]).toList = [41] := by rw [ByteArray.toList_eq]; rfl
  have e2 : (str [45]).toList = [45] := by rw [ByteArray.toList_eq]; rfl
  have e3 : (str [40]).toList = [40] := by rw [ByteArray.toList_eq]; rfl
  have e4 : (str [44]).toList = [44] := by rw [ByteArray.toList_eq]; rfl
  have e5 : (str [36, 41]).toList = [36, 41] := by rw [ByteArray.toList_eq]; rfl
  have e6 : (str [36, 45]).toList = [36, 45] := by rw [ByteArray.toList_eq]; rfl
  have e7 : (str [36]).toList = [36] := by rw [ByteArray.toList_eq]; rfl
  have e8 : (str [36, 44]).toList = [36, 44] := by rw [ByteArray.toList_eq]; rfl
  have e9 : (str []).toList = [] := by rw [ByteArray.toList_eq]; rfl
  rw [e1] at t1
  rw [e2] at t2
  rw [e3] at t3
  rw [e4] at t4
  rw [e5] at t5
  rw [e6] at t6
  rw [e7] at t7
  rw [e8] at t8
  rw [e9] at t9
  clear e1 e2 e3 e4 e5 e6 e7 e8 e9 tst hT hA hn hc hb bh
  go_enter Tryz.func64, Tryz.ntmps64
  go_wp2_with fail
  · obtain rfl : r = (1, amongL rest 1 8) := by rw [← HR.out, show hd = [41] by assumption]; rfl
    with_reducible refine HM8.out.mono ?_
    rintro e w2 ⟨rfl, hb2⟩
    go_wp2
    refine bodyPost_ret (v := .tuple #[_, _, _]) (by simp [results, Tryz.results64, go_sem]) rfl ⟨rfl, hb2⟩
  · obtain rfl : r = (1, amongL rest 1 8) := by rw [← HR.out, show hd = [45] by assumption]; rfl
    with_reducible refine HM8.out.mono ?_
    rintro e w2 ⟨rfl, hb2⟩
    go_wp2
    refine bodyPost_ret (v := .tuple #[_, _, _]) (by simp [results, Tryz.results64, go_sem]) rfl ⟨rfl, hb2⟩
  · obtain rfl : r = (0, amongL rest 1 8) := by rw [← HR.out, show hd = [40] by assumption]; rfl
    with_reducible refine HM8.out.mono ?_
    rintro e w2 ⟨rfl, hb2⟩
    go_wp2
    refine bodyPost_ret (v := .tuple #[_, _, _]) (by simp [results, Tryz.results64, go_sem]) rfl ⟨rfl, hb2⟩
  · obtain rfl : r = (0, amongL rest 1 8) := by rw [← HR.out, show hd = [44] by assumption]; rfl
    with_reducible refine HM8.out.mono ?_
    rintro e w2 ⟨rfl, hb2⟩
    go_wp2
    refine bodyPost_ret (v := .tuple #[_, _, _]) (by simp [results, Tryz.results64, go_sem]) rfl ⟨rfl, hb2⟩
  · obtain rfl : r = (1, amongL rest 9 1) := by rw [← HR.out, show hd = [36, 41] by assumption]; rfl
    with_reducible refine HM9.out.mono ?_
    rintro e w2 ⟨rfl, hb2⟩
    go_wp2
    refine bodyPost_ret (v := .tuple #[_, _, _]) (by simp [results, Tryz.results64, go_sem]) rfl ⟨rfl, hb2⟩
  · obtain rfl : r = (1, amongL rest 9 1) := by rw [← HR.out, show hd = [36, 45] by assumption]; rfl
    with_reducible refine HM9.out.mono ?_
    rintro e w2 ⟨rfl, hb2⟩
    go_wp2
    refine bodyPost_ret (v := .tuple #[_, _, _]) (by simp [results, Tryz.results64, go_sem]) rfl ⟨rfl, hb2⟩
  · obtain rfl : r = (0, amongL rest 9 1) := by rw [← HR.out, show hd = [36] by assumption]; rfl
    with_reducible refine HM9.out.mono ?_
    rintro e w2 ⟨rfl, hb2⟩
    go_wp2
    refine bodyPost_ret (v := .tuple #[_, _, _]) (by simp [results, Tryz.results64, go_sem]) rfl ⟨rfl, hb2⟩
  · obtain rfl : r = (0, amongL rest 9 1) := by rw [← HR.out, show hd = [36, 44] by assumption]; rfl
    with_reducible refine HM9.out.mono ?_
    rintro e w2 ⟨rfl, hb2⟩
    go_wp2
    refine bodyPost_ret (v := .tuple #[_, _, _]) (by simp [results, Tryz.results64, go_sem]) rfl ⟨rfl, hb2⟩
  · obtain rfl : r = (0, aloneL rest) := by rw [← HR.out, show hd = [] by assumption]; rfl
    with_reducible refine HAl.out.mono ?_
    rintro e w2 ⟨rfl, hb2⟩
    go_wp2
    refine bodyPost_ret (v := .tuple #[_, _, _]) (by simp [results, Tryz.results64, go_sem]) rfl ⟨rfl, hb2⟩
  · obtain rfl : r = (0, 0, 0) := by rw [← HR.out, tell_not hd rest (by assumption) (by assumption) (by assumption) (by assumption) (by assumption) (by assumption) (by assumption) (by assumption) (by assumption)]
    refine bodyPost_ret (v := .tuple #[_, _, _]) (by simp [results, Tryz.results64, go_sem]) rfl ⟨rfl, Bel.refl w⟩
end Go.Proofs.YtphnahabonfmmaaGreatDoor.V
namespace Go.Proofs.YtphnahabonfmmaaGreatDoor.V
open Go.RowKit U
set_option linter.unusedVariables false

/-- Three places of the call's own, the first of two numbers, the others of noughts. -/
def Bx (w W : World) (a b c : Nat) (s0 s1 : Int) : Prop := w.heap.size ≤ a ∧ a < b ∧ b < c ∧ c < W.heap.size
  ∧ (W.cell? ⟨a, 0, none⟩ = some (.int .i64 s0) ∧ W.cell? ⟨a, 1, none⟩ = some (.int .i64 s1) ∧ W.frozen? ⟨a, 0, none⟩ = false ∧ W.frozen? ⟨a, 1, none⟩ = false)
  ∧ (W.cell? ⟨b, 0, none⟩ = some (.int .i64 0) ∧ W.cell? ⟨b, 1, none⟩ = some (.int .i64 0) ∧ W.frozen? ⟨b, 0, none⟩ = false ∧ W.frozen? ⟨b, 1, none⟩ = false)
  ∧ (W.cell? ⟨c, 0, none⟩ = some (.int .i64 0) ∧ W.cell? ⟨c, 1, none⟩ = some (.int .i64 0) ∧ W.frozen? ⟨c, 0, none⟩ = false ∧ W.frozen? ⟨c, 1, none⟩ = false)
  ∧ Bel w W
theorem box_keep {W W' : World} {p : Nat} {x y : Int} (hb : Bel W W') (hp : p < W.heap.size) (h : W.cell? ⟨p, 0, none⟩ = some (.int .i64 x) ∧ W.cell? ⟨p, 1, none⟩ = some (.int .i64 y) ∧ W.frozen? ⟨p, 0, none⟩ = false ∧ W.frozen? ⟨p, 1, none⟩ = false) :
    W'.cell? ⟨p, 0, none⟩ = some (.int .i64 x) ∧ W'.cell? ⟨p, 1, none⟩ = some (.int .i64 y) ∧ W'.frozen? ⟨p, 0, none⟩ = false ∧ W'.frozen? ⟨p, 1, none⟩ = false :=
  ⟨(Below.cell hb (p := ⟨p, 0, none⟩) hp).trans h.1, (Below.cell hb (p := ⟨p, 1, none⟩) hp).trans h.2.1, (Below.frozen hb (p := ⟨p, 0, none⟩) hp).trans h.2.2.1, (Below.frozen hb (p := ⟨p, 1, none⟩) hp).trans h.2.2.2⟩
theorem Bx.bel {w W W' : World} {a b c : Nat} {s0 s1 : Int} (h : Bx w W a b c s0 s1) (hb : Bel W W') : Bx w W' a b c s0 s1 := by
  obtain ⟨h1, h2, h3, h4, ha, hb', hc, hw⟩ := h
  exact ⟨h1, h2, h3, by have := Below.size hb; omega, box_keep hb (by omega) ha, box_keep hb (by omega) hb', box_keep hb h4 hc, hw.trans hb⟩
theorem bx_made (w : World) (s0 s1 : Int) : Bx w (((w.alloc (.cells #[.int .i64 s0, .int .i64 s1] 35)).alloc (.cells #[.int .i64 0, .int .i64 0] 35)).alloc (.cells #[.int .i64 0, .int .i64 0] 38)) w.heap.size (w.heap.size + 1) (w.heap.size + 1 + 1) s0 s1 := by
  refine ⟨by omega, by omega, by omega, by simp, ?_, ?_, ?_, (((Bel.refl w).alloc _).alloc _).alloc _⟩
  all_goals refine ⟨?_, ?_, ?_, ?_⟩
  all_goals simp [go_sem]

/-- The sets behind it. -/
def newst (s0 s1 side set : Int) : Value := if side = 0 then .agg #[.int .i64 set, .int .i64 s1] else .agg #[.int .i64 s0, .int .i64 set]
def NextYes (w : World) (s0 s1 side set : Int) (n : Nat) (e : Ending) (w' : World) : Prop := e = .returned (.tuple #[newst s0 s1 side set, .int .i64 n, .agg #[.int .i64 0, .int .i64 0]]) ∧ Bel w w'
def NextNo (w : World) (x at_ : Int) (e : Ending) (w' : World) : Prop := e = .returned (.tuple #[.agg #[.int .i64 0, .int .i64 0], .int .i64 0, .agg #[.int .i64 x, .int .i64 at_]]) ∧ Bel w w'
/-- No byte 27 stands there. -/
def NotThere (l : List Int) (at_ : Int) : Prop := at_ < 0 ∨ ∃ k : Nat, at_ = k ∧ l[k]? ≠ some 27

theorem four_sets {w W : World} {b c : Nat} (h : Bel w W) (hb : w.heap.size ≤ b) (hc : w.heap.size ≤ c) (x1 x2 x3 x4 : Value) :
    Bel w ((((W.setCell ⟨b, 0, none⟩ x1).setCell ⟨b, 1, none⟩ x2).setCell ⟨c, 0, none⟩ x3).setCell ⟨c, 1, none⟩ x4) :=
  (((h.setCell (by show _ ≤ b; omega) _).setCell (by show _ ≤ b; omega) _).setCell (by show _ ≤ c; omega) _).setCell (by show _ ≤ c; omega) _
theorem five_sets {w W : World} {a b c i : Nat} (h : Bel w W) (ha : w.heap.size ≤ a) (hb : w.heap.size ≤ b) (hc : w.heap.size ≤ c) (x0 x1 x2 x3 x4 : Value) :
    Bel w (((((W.setCell ⟨a, i, none⟩ x0).setCell ⟨b, 0, none⟩ x1).setCell ⟨b, 1, none⟩ x2).setCell ⟨c, 0, none⟩ x3).setCell ⟨c, 1, none⟩ x4) :=
  ((((h.setCell (by show _ ≤ a; omega) _).setCell (by show _ ≤ b; omega) _).setCell (by show _ ≤ b; omega) _).setCell (by show _ ≤ c; omega) _).setCell (by show _ ≤ c; omega) _

set_option maxRecDepth 100000 in
set_option maxHeartbeats 4000000 in
theorem next_arg (A : Option Addr) (n c : Nat) (l : List Int) (at_ s0 s1 : Int) (w : World) (hA : Rd w w.heap.size .u8 A l) (hn : l.length = n) (hc : n ≤ c) (hat : NotThere l at_) :
    Calls Tryz.prog 43 #[.slice A n c, .int .i64 at_, .agg #[.int .i64 s0, .int .i64 s1]] w (NextNo w 1 at_) := by
  have HX := Lib.hid (bx_made w s0 s1)
  rcases hat with h | ⟨k, rfl, hk⟩
  · clear hA hn hc
    go_enter Tryz.func43, Tryz.ntmps43
    go_wp2
    refine bodyPost_ret (v := .tuple #[.agg #[.int .i64 0, .int .i64 0], .int .i64 0, .agg #[.int .i64 1, .int .i64 at_]]) (by simp [results, Tryz.results43, go_sem]) rfl ⟨rfl, (((Bel.refl w).alloc _).alloc _).alloc _⟩
  · have q0 : ¬ (k : Int) < 0 := by omega
    by_cases hlt : k < n
    · obtain ⟨x, hx⟩ : ∃ x, l[k]? = some x := ⟨l[k]'(by omega), by simp⟩
      obtain ⟨g, off, rfl, hg, hcell⟩ := hA k x hx
      have hne : (x != 27) = true := by
        rw [hx] at hk
        simpa using hk
      have q1 : decide ((n : Int) ≤ (k : Int)) = false := decide_eq_false (by omega)
      have q2 : (k : Int) < (n : Int) := by omega
      have q3 : (0 : Int) ≤ (k : Int) := by omega
      have hcell' := (Below.cell HX.out.2.2.2.2.2.2.2 (p := ⟨g, off + k, none⟩) hg).trans hcell
      clear hA hn hc hx hk hlt hcell
      go_enter Tryz.func43, Tryz.ntmps43
      go_wp2
      refine bodyPost_ret (v := .tuple #[.agg #[.int .i64 0, .int .i64 0], .int .i64 0, .agg #[.int .i64 1, .int .i64 k]]) (by simp [results, Tryz.results43, go_sem]) rfl ⟨rfl, (((Bel.refl w).alloc _).alloc _).alloc _⟩
    · have q1 : decide ((n : Int) ≤ (k : Int)) = true := decide_eq_true (by omega)
      have q2 : (n : Int) ≤ (k : Int) := by omega
      clear hA hn hc hk hlt
      go_enter Tryz.func43, Tryz.ntmps43
      go_wp2
      refine bodyPost_ret (v := .tuple #[.agg #[.int .i64 0, .int .i64 0], .int .i64 0, .agg #[.int .i64 1, .int .i64 k]]) (by simp [results, Tryz.results43, go_sem]) rfl ⟨rfl, (((Bel.refl w).alloc _).alloc _).alloc _⟩
end Go.Proofs.YtphnahabonfmmaaGreatDoor.V
namespace Go.Proofs.YtphnahabonfmmaaGreatDoor.V
open Go.RowKit U
set_option linter.unusedVariables false

def NextP (w : World) (l : List Int) (k : Nat) (s0 s1 : Int) (e : Ending) (w' : World) : Prop :=
  (NoEsc (l.drop k) ∧ NextNo w 5 k e w') ∨ ∃ side set N, Reads (l.drop k) side set N ∧ NextYes w s0 s1 side set N e w'
def ThereP (w : World) (s0 s1 : Int) (k h : Nat) (r : Nat × Nat × Nat) (e : Ending) (w' : World) : Prop :=
  (r.2.2 = 0 ∧ NextNo w 5 k e w') ∨ (r.2.2 ≠ 0 ∧ NextYes w s0 s1 r.1 r.2.1 (1 + h + r.2.2) e w')
set_option maxRecDepth 100000 in
set_option maxHeartbeats 4000000 in
theorem next_there (A : Option Addr) (c k h m side set nn : Nat) (l : List Int) (s0 s1 : Int) (w : World) (hT : Tb w) (hA : Rd w w.heap.size .u8 A l) (hn : l.length = k + 1 + h + m) (hc : k + 1 + h + m ≤ c) (hkn : k + 1 + h + m ≤ 9223372036854770000) (hnn : 1 + h + nn ≤ 9223372036854775000) (hb : ∀ x ∈ l, 0 ≤ x ∧ x < 256) (hk : l[k]? = some 27)
    (hh : (headOf (l.drop (k + 1))).length = h) (hm : (restOf (l.drop (k + 1))).length = m)
    (hr : tellL (headOf (l.drop (k + 1))) (restOf (l.drop (k + 1))) = (side, set, nn)) :
    Calls Tryz.prog 43 #[.slice A (k + 1 + h + m : Nat) c, .int .i64 k, .agg #[.int .i64 s0, .int .i64 s1]] w (ThereP w s0 s1 k h (side, set, nn)) := by
  have HX := Lib.hid (bx_made w s0 s1)
  obtain ⟨g, off, rfl, hg, hcell⟩ := hA k 27 hk
  have hcell' := (Below.cell HX.out.2.2.2.2.2.2.2 (p := ⟨g, off + k, none⟩) hg).trans hcell
  have q0 : ¬ (k : Int) < 0 := by omega
  have q1 : decide ((k : Int) + 1 + h + m ≤ (k : Int)) = false := decide_eq_false (by omega)
  have q2 : (k : Int) < (k : Int) + 1 + h + m := by omega
  have q3 : (0 : Int) ≤ (k : Int) := by omega
  have q4 : (k : Int) + 1 ≤ (k : Int) + 1 + h + m := by omega
  have q5 : (k : Int) + 1 + h + m ≤ (c : Int) := by omega
  have HT := Lib.hid hT
  have HA := Lib.hid hA
  have HN := Lib.hid hn
  have HB := Lib.hid hb
  have HK := Lib.hid hk
  have HR := Lib.hid hr
  have HH := Lib.hid hh
  have HM := Lib.hid hm
  have hbt : ∀ x ∈ l.drop (k + 1), 0 ≤ x ∧ x < 256 := fun x hx => hb x (List.mem_of_mem_drop hx)
  have HBT := Lib.hid hbt
  clear hT hA hn hb hk hr hcell hh hm hbt
  by_cases hck : c = k + 1
  · obtain rfl : h = 0 := by omega
    obtain rfl : m = 0 := by omega
    have hd0 : l.drop (k + 1) = [] := List.drop_eq_nil_of_le (by rw [HN.out]; omega)
    have hrz : (0, 0, 0) = (side, set, nn) := by rw [← HR.out, hd0]; rfl
    simp only [Prod.mk.injEq] at hrz
    obtain ⟨rfl, rfl, rfl⟩ := hrz
    subst hck
    have hck' : (((k + 1 : Nat) : Int)) = (k : Int) + 1 := by omega
    clear q1 q2 q4 q5
    have q1 : decide ((k : Int) + 1 ≤ (k : Int)) = false := decide_eq_false (by omega)
    have q2 : (k : Int) < (k : Int) + 1 := by omega
    go_enter Tryz.func43, Tryz.ntmps43
    go_wp2_with fail
    generalize hW : (((w.alloc (Obj.cells #[Value.int IntKind.i64 s0, Value.int IntKind.i64 s1] 35)).alloc (Obj.cells #[Value.int IntKind.i64 0, Value.int IntKind.i64 0] 35)).alloc (Obj.cells #[Value.int IntKind.i64 0, Value.int IntKind.i64 0] 38)) = W at HX ⊢
    clear hW hcell'
    have hbw : Bel w W := HX.out.2.2.2.2.2.2.2
    have HBW := Lib.hid hbw
    clear hbw
    with_reducible refine (trim_is (some ⟨g, off, none⟩) 0 0 [] ⟨#[36, 40, 44, 41, 45]⟩ W rfl Rd.nil rfl (by omega) (fun e => by cases e) (by simp)).mono ?_
    rintro e w1 ⟨v, rfl, ⟨A', m', c', rfl, hm', hc', hrd, hnil⟩, hb1⟩
    obtain rfl : m' = 0 := hm'.symm
    have HX1 := Lib.hid (HX.out.bel hb1)
    clear HX
    have q6 : (k : Int) + 1 ≤ (k : Int) + 1 := by omega
    have hcv := run_str_bytes (P := Tryz.prog) (l := []) (c := 0) (n := 0) w1 33 9 5 Tryz.underlying33 Tryz.underlying5 Tryz.underlying9 (B := w1.heap.size) (g := g) (off := off) Rd.nil rfl (by simp)
    have HTE := Lib.hid (tell_is A' (some ⟨g, off, none⟩) 0 c' 0 0 [] [] _ w1 ((HT.out.bel HBW.out).bel hb1) hrd hm' hc' (by simp) hcv (by simp) (show tellL [] [] = (0, 0, 0) from rfl))
    clear hcv hb1 hrd hm' hnil
    go_wp2_with fail
    with_reducible refine HTE.out.mono ?_
    rintro e w2 ⟨he, hb2⟩
    obtain rfl : e = .returned (.tuple #[.int .i64 0, .int .i64 0, .int .i64 0]) := he
    have HX2 := Lib.hid (HX1.out.bel hb2)
    clear HTE HX1 hb2 HBW
    obtain ⟨x1, x2, x3, x4, ⟨a0, a1, a2, a3⟩, ⟨b0, b1, b2, b3⟩, ⟨c0, c1, c2, c3⟩, hw⟩ := HX2.out
    have HW := Lib.hid hw
    clear hw HX2
    generalize w.heap.size + 1 + 1 = bc at *
    generalize w.heap.size + 1 = bb at *
    generalize hba : w.heap.size = ba at *
    replace hba := Lib.hid hba
    have n1 : ba ≠ bb := by omega
    have n2 : bb ≠ ba := by omega
    have n3 : ba ≠ bc := by omega
    have n4 : bc ≠ ba := by omega
    have n5 : bb ≠ bc := by omega
    have n6 : bc ≠ bb := by omega
    go_wp2
    refine bodyPost_ret (v := .tuple #[.agg #[.int .i64 0, .int .i64 0], .int .i64 0, .agg #[.int .i64 5, .int .i64 k]]) (by simp [results, Tryz.results43, go_sem, b0, b1, c0, c1, n1, n2, n3, n4, n5, n6]) rfl (.inl ⟨rfl, rfl, ?_⟩)
    refine four_sets HW.out ?_ ?_ _ _ _ _ <;> rw [hba.out] <;> omega
  · have hck' : ¬ ((c : Int) = (k : Int) + 1) := by omega
    go_enter Tryz.func43, Tryz.ntmps43
    go_wp2_with fail
    generalize hW : (((w.alloc (Obj.cells #[Value.int IntKind.i64 s0, Value.int IntKind.i64 s1] 35)).alloc (Obj.cells #[Value.int IntKind.i64 0, Value.int IntKind.i64 0] 35)).alloc (Obj.cells #[Value.int IntKind.i64 0, Value.int IntKind.i64 0] 38)) = W at HX ⊢
    clear hW hcell'
    have hbw : Bel w W := HX.out.2.2.2.2.2.2.2
    have HD := Lib.hid ((HA.out.drop (k := k + 1)).bel hbw).here
    have HBW := Lib.hid hbw
    clear hbw
    with_reducible refine (trim_is (some ⟨g, off + (k + 1), none⟩) (k + 1 + h + m - (k + 1)) (c - (k + 1)) (l.drop (k + 1)) ⟨#[36, 40, 44, 41, 45]⟩ W rfl HD.out (by rw [List.length_drop, HN.out]) (by omega) (fun e => by cases e) HBT.out).mono ?_
    rintro e w1 ⟨v, rfl, ⟨A', m', c', rfl, hm', hc', hrd, hnil⟩, hb1⟩
    obtain rfl : m' = m := hm'.symm.trans HM.out
    have HX1 := Lib.hid (HX.out.bel hb1)
    clear HX
    have q6 : (k : Int) + 1 ≤ (k : Int) + 1 + h := by omega
    have q7 : (k : Int) + 1 + h ≤ (c : Int) := by omega
    have hhd : (l.drop (k + 1)).take h = headOf (l.drop (k + 1)) := by
      conv => lhs; rw [← head_rest (l.drop (k + 1))]
      rw [List.take_left' HH.out]
    have hbw1 : Bel W w1 := hb1
    have hcv := run_str_bytes (P := Tryz.prog) (c := c - (k + 1)) (n := h) w1 33 9 5 Tryz.underlying33 Tryz.underlying5 Tryz.underlying9 ((HD.out.bel hb1).take (k := h)) (by rw [hhd, HH.out]) (fun x hx => HBT.out x (List.mem_of_mem_take hx))
    rw [hhd] at hcv
    have HTE := Lib.hid (tell_is A' (some ⟨g, off + (k + 1), none⟩) m' c' h (c - (k + 1)) (restOf (l.drop (k + 1))) (headOf (l.drop (k + 1))) _ w1 ((HT.out.bel HBW.out).bel hb1) hrd hm' hc' (fun x hx => HBT.out x (by rw [← head_rest (l.drop (k + 1))]; exact List.mem_append_right _ hx)) hcv (fun x hx => HBT.out x (by rw [← head_rest (l.drop (k + 1))]; exact List.mem_append_left _ hx)) HR.out)
    clear hcv hhd hb1 hbw1 hrd hm' hnil
    go_wp2_with fail
    with_reducible refine HTE.out.mono ?_
    rintro e w2 ⟨he, hb2⟩
    obtain rfl : e = .returned (.tuple #[.int .i64 side, .int .i64 set, .int .i64 nn]) := he
    have HX2 := Lib.hid (HX1.out.bel hb2)
    clear HTE HX1 hb2 HD HBW
    obtain ⟨x1, x2, x3, x4, ⟨a0, a1, a2, a3⟩, ⟨b0, b1, b2, b3⟩, ⟨c0, c1, c2, c3⟩, hw⟩ := HX2.out
    have HW := Lib.hid hw
    clear hw HX2
    generalize w.heap.size + 1 + 1 = bc at *
    generalize w.heap.size + 1 = bb at *
    generalize hba : w.heap.size = ba at *
    replace hba := Lib.hid hba
    have n1 : ba ≠ bb := by omega
    have n2 : bb ≠ ba := by omega
    have n3 : ba ≠ bc := by omega
    have n4 : bc ≠ ba := by omega
    have n5 : bb ≠ bc := by omega
    have n6 : bc ≠ bb := by omega
    by_cases hz : nn = 0
    · subst hz
      go_wp2
      refine bodyPost_ret (v := .tuple #[.agg #[.int .i64 0, .int .i64 0], .int .i64 0, .agg #[.int .i64 5, .int .i64 k]]) (by simp [results, Tryz.results43, go_sem, b0, b1, c0, c1, n1, n2, n3, n4, n5, n6]) rfl (.inl ⟨rfl, rfl, ?_⟩)
      refine four_sets HW.out ?_ ?_ _ _ _ _ <;> rw [hba.out] <;> omega
    · have hnz : ((nn : Int) == 0) = false := by simp; omega
      have w0 : 0 ≤ 1 + (h : Int) := by omega
      have w1' : 1 + (h : Int) ≤ 9223372036854775807 := by omega
      have w2' : 1 + (h : Int) + (nn : Int) ≤ 9223372036854775807 := by omega
      by_cases hs : side = 0
      · subst hs
        go_wp2
        refine bodyPost_ret (v := .tuple #[.agg #[.int .i64 set, .int .i64 s1], .int .i64 (1 + h + nn : Nat), .agg #[.int .i64 0, .int .i64 0]]) (by simp [results, Tryz.results43, go_sem, b0, b1, c0, c1, n1, n2, n3, n4, n5, n6]) rfl (.inr ⟨hz, rfl, ?_⟩)
        refine five_sets HW.out ?_ ?_ ?_ _ _ _ _ _ <;> rw [hba.out] <;> omega
      · have hs' : ((side : Int) == 0) = false := by simp; omega
        go_wp2
        refine bodyPost_ret (v := .tuple #[.agg #[.int .i64 s0, .int .i64 set], .int .i64 (1 + h + nn : Nat), .agg #[.int .i64 0, .int .i64 0]]) (by simp [results, Tryz.results43, go_sem, b0, b1, c0, c1, n1, n2, n3, n4, n5, n6]) rfl (.inr ⟨hz, ?_, ?_⟩)
        · show Ending.returned _ = _
          rw [newst, if_neg (by omega)]
        · refine five_sets HW.out ?_ ?_ ?_ _ _ _ _ _ <;> rw [hba.out] <;> omega

theorem next_any (A : Option Addr) (n c k : Nat) (l : List Int) (s0 s1 : Int) (w : World) (hT : Tb w) (hA : Rd w w.heap.size .u8 A l) (hn : l.length = n) (hc : n ≤ c) (hn' : n ≤ 9223372036854770000) (hb : ∀ x ∈ l, 0 ≤ x ∧ x < 256) (hk : l[k]? = some 27) :
    Calls Tryz.prog 43 #[.slice A n c, .int .i64 k, .agg #[.int .i64 s0, .int .i64 s1]] w (NextP w l k s0 s1) := by
  have hkn : k < l.length := (List.getElem?_eq_some_iff.1 hk).1
  have hd : l.drop k = 27 :: l.drop (k + 1) := by
    rw [List.drop_eq_getElem_cons hkn]
    congr 1
    simpa [List.getElem?_eq_getElem hkn] using hk
  obtain ⟨h, hh⟩ : ∃ h, (headOf (l.drop (k + 1))).length = h := ⟨_, rfl⟩
  obtain ⟨m, hm⟩ : ∃ m, (restOf (l.drop (k + 1))).length = m := ⟨_, rfl⟩
  obtain ⟨⟨side, set, nn⟩, hr⟩ : ∃ r, tellL (headOf (l.drop (k + 1))) (restOf (l.drop (k + 1))) = r := ⟨_, rfl⟩
  have hlen : h + m = l.length - (k + 1) := by
    rw [← hh, ← hm, ← List.length_append, head_rest, List.length_drop]
  have hnn : nn = 0 ∨ Reads (27 :: l.drop (k + 1)) side set (1 + h + nn) := by
    by_cases hz : nn = 0
    · exact .inl hz
    · exact .inr (by rw [← hh]; exact tell_reads hr hz)
  have hbig : 1 + h + nn ≤ 9223372036854775000 := by
    rcases hnn with rfl | ⟨p, _, h2, h3⟩
    · omega
    · have := h3.length_le
      rw [List.length_cons, List.length_drop] at this
      omega
  have hN : n = k + 1 + h + m := by omega
  subst hN
  refine (next_there A c k h m side set nn l s0 s1 w hT hA hn hc hn' hbig hb hk hh hm hr).mono ?_
  intro e w' hp
  rcases hp with ⟨hz, hp⟩ | ⟨hz, hp⟩
  · exact .inl ⟨by rw [hd]; exact tell_none (by rw [hr]; exact hz), hp⟩
  · exact .inr ⟨side, set, _, by rw [hd]; exact hnn.resolve_left hz, hp⟩
end Go.Proofs.YtphnahabonfmmaaGreatDoor.V
namespace Go.Proofs.YtphnahabonfmmaaGreatDoor.D
open Go.RowKit U V
set_option linter.unusedVariables false

/-- A fault, or the reader one step on. -/
def StepP (R : Nat) (w : World) (o : Except (Int × Int) (Nat × St)) (e : Ending) (w' : World) : Prop := match o with
  | .error f => (∃ n : Int, e = .returned (.tuple #[.int .i64 n, .agg #[.int .i64 f.1, .int .i64 f.2]])) ∧ Below R w w'
  | .ok x => e = .returned (.tuple #[.int .i64 x.1, .agg #[.int .i64 0, .int .i64 0]]) ∧ ∃ vd vm, Rs R w' x.2.g0 x.2.g1 vd vm x.2.first x.2.done x.2.marks ∧ Below R w w'

theorem head_drop {l : List Int} {k : Nat} {b : Int} (h : l[k]? = some b) : (l.drop k).headD 0 = b := by
  rw [List.drop_eq_getElem_cons (List.getElem?_eq_some_iff.1 h).1]
  simpa [List.getElem?_eq_getElem (List.getElem?_eq_some_iff.1 h).1] using h

set_option maxRecDepth 100000 in
set_option maxHeartbeats 4000000 in
theorem step_esc (W w : World) (k n cap : Nat) (A : Option Addr) (l : List Int) (s : St) (vd vm : Value) (hs : Rs W.heap.size w s.g0 s.g1 vd vm s.first s.done s.marks) (hW : Bel W w) (hZ : Dz W) (hA : Rd W W.heap.size .u8 A l)
    (hn : l.length = n) (hc : n ≤ cap) (hn' : n ≤ 9223372036854770000) (hb : ∀ x ∈ l, 0 ≤ x ∧ x < 256) (hk : l[k]? = some 27) :
    Calls Tryz.prog 24 #[.pointer (some ⟨W.heap.size, 0, none⟩), .slice A n cap, .int .i64 k] w (StepP W.heap.size w (step (l.drop k) k s)) := by
  have hkn : k < n := by have := (List.getElem?_eq_some_iff.1 hk).1; omega
  have hst : step (l.drop k) k s = match escL (l.drop k) with
    | none => .error (5, (k : Int))
    | some (side, set, n) => .ok (n, if side = 0 then { s with g0 := set } else { s with g1 := set }) := by
    unfold step
    rw [head_drop hk, if_pos rfl]
    cases escL (l.drop k) <;> rfl
  obtain ⟨o, ho⟩ : ∃ o, step (l.drop k) k s = o := ⟨_, rfl⟩
  rw [ho]
  rw [hst] at ho
  obtain ⟨g0, g1, d, m, f⟩ := s
  dsimp only at hs ho
  have HO := Lib.hid ho
  clear ho
  have hb1 := (Bel.refl w).alloc (.cells #[.int .i64 0, .int .i64 0] 38)
  have hs1 := hs.bel hb1
  obtain ⟨g, off, rfl, hg, hcell⟩ := hA k 27 hk
  have kb := cell_bel hcell (hW.trans hb1)
  have c0 := hs1.c0
  have c1 := hs1.c1
  obtain ⟨R, hR⟩ : ∃ R, W.heap.size = R := ⟨_, rfl⟩
  rw [hR] at hs hs1 c0 c1 ⊢
  have hRF : R ≠ w.heap.size := by have := hs.lt; omega
  have HSM := Lib.hid hs.small
  have HS1 := Lib.hid hs1
  have q0 : (0 : Int) ≤ (k : Int) := by omega
  have q1 : (k : Int) < (n : Int) := by omega
  have F0 := Lib.hid (show (w.alloc (.cells #[.int .i64 0, .int .i64 0] 38)).cell? ⟨w.heap.size, 0, none⟩ = some (.int .i64 0) by simp [go_sem])
  have F1 := Lib.hid (show (w.alloc (.cells #[.int .i64 0, .int .i64 0] 38)).cell? ⟨w.heap.size, 1, none⟩ = some (.int .i64 0) by simp [go_sem])
  have F2 := Lib.hid (show ∀ i, (w.alloc (.cells #[.int .i64 0, .int .i64 0] 38)).frozen? ⟨w.heap.size, i, none⟩ = false by intro i; simp [go_sem])
  have HC := Lib.hid (next_any (some ⟨g, off, none⟩) n cap k l g0 g1 _ (hZ.bel (hW.trans hb1)).2.1 (hA.bel (hW.trans hb1)).here hn hc hn' hb hk)
  have HB1 := Lib.hid (show Below R w _ from Below.mono hb1 (Nat.le_of_lt hs.lt))
  have HRlt := Lib.hid hs.lt
  clear hs hs1 hcell hb1 hk hst hZ hA hb hW hn
  go_enter Tryz.func24, Tryz.ntmps24
  go_wp2_with fail
  with_reducible refine HC.out.mono ?_
  rintro e w2 hp
  rcases hp with ⟨hno, rfl, hb2⟩ | ⟨side, set, N, hr, he, hb2⟩
  · have hE := escL_no hno
    have hs2 := HS1.out.bel hb2
    have HS2 := Lib.hid hs2
    have c0 := hs2.c0
    have c1 := hs2.c1
    have f0 : ∀ i, w2.frozen? ⟨R, i, none⟩ = false := fun i => hs2.free
    have f00 := f0 0
    have f01 := f0 1
    have d0 := cell_bel F0.out hb2
    have d1 := cell_bel F1.out hb2
    have e0 : w2.frozen? ⟨w.heap.size, 0, none⟩ = false := (Below.frozen hb2 (p := ⟨w.heap.size, 0, none⟩) (cell_block F0.out)).trans (F2.out 0)
    have e1 : w2.frozen? ⟨w.heap.size, 1, none⟩ = false := (Below.frozen hb2 (p := ⟨w.heap.size, 1, none⟩) (cell_block F1.out)).trans (F2.out 1)
    have HB2 := Lib.hid (show Below R w w2 from HB1.out.trans (Below.mono hb2 (by have := HRlt.out; simp; omega)))
    have HE := Lib.hid hE
    clear hs2 hE hb2 hno HC f0
    have hRle : R ≤ w.heap.size := Nat.le_of_lt HRlt.out
    generalize w.heap.size = F at *
    have hFR : F ≠ R := Ne.symm hRF
    have T2 : Two w2 F 0 0 := ⟨d0, d1, e0, e1⟩
    have TT := Lib.hid ((((((T2.other hFR 0 (.int .i64 0)).other hFR 1 (.int .i64 0)).set 5 k).set 5 k).drew))
    have HBF := Lib.hid ((((((((HB2.out.setCell (p := ⟨R, 0, none⟩) (Nat.le_refl R) (.int .i64 0)).setCell (p := ⟨R, 1, none⟩) (Nat.le_refl R) (.int .i64 0)).setCell (p := ⟨F, 0, none⟩) hRle (.int .i64 5)).setCell (p := ⟨F, 1, none⟩) hRle (.int .i64 k)).setCell (p := ⟨F, 0, none⟩) hRle (.int .i64 5)).setCell (p := ⟨F, 1, none⟩) hRle (.int .i64 k)).drew))
    have HRS := Lib.hid (((((((HS2.out.set0 0).set1 0).else_ hRF HSM.out.1 HSM.out.2 (i := 0) (u := .int .i64 5)).else_ hRF HSM.out.1 HSM.out.2 (i := 1) (u := .int .i64 k)).else_ hRF HSM.out.1 HSM.out.2 (i := 0) (u := .int .i64 5)).else_ hRF HSM.out.1 HSM.out.2 (i := 1) (u := .int .i64 k)).bel (Bel.refl _).drew)
    clear T2 HS2 HB2 HS1 HB1
    go_wp2
    go_region
    go_wp2
    obtain ⟨t0, t1, _, _⟩ := TT.out
    clear TT
    revert HBF
    revert HRS
    revert t0
    revert t1
    generalize (((((((w2.setCell ⟨R, 0, none⟩ (.int .i64 0)).setCell ⟨R, 1, none⟩ (.int .i64 0)).setCell ⟨F, 0, none⟩ (.int .i64 5)).setCell ⟨F, 1, none⟩ (.int .i64 k)).setCell ⟨F, 0, none⟩ (.int .i64 5)).setCell ⟨F, 1, none⟩ (.int .i64 k)).drew) = X
    intro t1 t0 HRS HBF
    refine bodyPost_ret (v := .tuple #[.int .i64 0, .agg #[.int .i64 5, .int .i64 k]]) (by simp [results, Tryz.results24, go_sem, t0, t1]) rfl ?_
    rw [← HO.out, HE.out]
    exact ⟨⟨0, rfl⟩, HBF.out⟩
  · have hE := escL_of hr
    have hrange := (reads_range hr).1
    have hs2 := HS1.out.bel hb2
    have HS2 := Lib.hid hs2
    have c0 := hs2.c0
    have c1 := hs2.c1
    have f0 : ∀ i, w2.frozen? ⟨R, i, none⟩ = false := fun i => hs2.free
    have f00 := f0 0
    have f01 := f0 1
    have d0 := cell_bel F0.out hb2
    have d1 := cell_bel F1.out hb2
    have e0 : w2.frozen? ⟨w.heap.size, 0, none⟩ = false := (Below.frozen hb2 (p := ⟨w.heap.size, 0, none⟩) (cell_block F0.out)).trans (F2.out 0)
    have e1 : w2.frozen? ⟨w.heap.size, 1, none⟩ = false := (Below.frozen hb2 (p := ⟨w.heap.size, 1, none⟩) (cell_block F1.out)).trans (F2.out 1)
    have HB2 := Lib.hid (show Below R w w2 from HB1.out.trans (Below.mono hb2 (by have := HRlt.out; simp; omega)))
    have HE := Lib.hid hE
    clear hs2 hE hb2 hr HC f0
    have hRle : R ≤ w.heap.size := Nat.le_of_lt HRlt.out
    generalize w.heap.size = F at *
    have hFR : F ≠ R := Ne.symm hRF
    by_cases h0 : side = 0
    · subst h0
      rw [newst, if_pos rfl] at he
      subst he
      have T2 : Two w2 F 0 0 := ⟨d0, d1, e0, e1⟩
      have TT := Lib.hid ((((((T2.other hFR 0 (.int .i64 set)).other hFR 1 (.int .i64 g1)).set 0 0).set 0 0).drew))
      have HBF := Lib.hid ((((((((HB2.out.setCell (p := ⟨R, 0, none⟩) (Nat.le_refl R) (.int .i64 set)).setCell (p := ⟨R, 1, none⟩) (Nat.le_refl R) (.int .i64 g1)).setCell (p := ⟨F, 0, none⟩) hRle (.int .i64 0)).setCell (p := ⟨F, 1, none⟩) hRle (.int .i64 0)).setCell (p := ⟨F, 0, none⟩) hRle (.int .i64 0)).setCell (p := ⟨F, 1, none⟩) hRle (.int .i64 0)).drew))
      have HRS := Lib.hid (((((((HS2.out.set0 set).set1 g1).else_ hRF HSM.out.1 HSM.out.2 (i := 0) (u := .int .i64 0)).else_ hRF HSM.out.1 HSM.out.2 (i := 1) (u := .int .i64 0)).else_ hRF HSM.out.1 HSM.out.2 (i := 0) (u := .int .i64 0)).else_ hRF HSM.out.1 HSM.out.2 (i := 1) (u := .int .i64 0)).bel (Bel.refl _).drew)
      clear T2 HS2 HB2 HS1 HB1
      go_wp2
      go_region
      go_wp2
      obtain ⟨t0, t1, _, _⟩ := TT.out
      clear TT
      revert HBF
      revert HRS
      revert t0
      revert t1
      generalize (((((((w2.setCell ⟨R, 0, none⟩ (.int .i64 set)).setCell ⟨R, 1, none⟩ (.int .i64 g1)).setCell ⟨F, 0, none⟩ (.int .i64 0)).setCell ⟨F, 1, none⟩ (.int .i64 0)).setCell ⟨F, 0, none⟩ (.int .i64 0)).setCell ⟨F, 1, none⟩ (.int .i64 0)).drew) = X
      intro t1 t0 HRS HBF
      refine bodyPost_ret (v := .tuple #[.int .i64 N, .agg #[.int .i64 0, .int .i64 0]]) (by simp [results, Tryz.results24, go_sem, t0, t1]) rfl ?_
      rw [← HO.out, HE.out]
      exact ⟨rfl, _, _, HRS.out, HBF.out⟩
    · rw [newst, if_neg h0] at he
      subst he
      have T2 : Two w2 F 0 0 := ⟨d0, d1, e0, e1⟩
      have TT := Lib.hid ((((((T2.other hFR 0 (.int .i64 g0)).other hFR 1 (.int .i64 set)).set 0 0).set 0 0).drew))
      have HBF := Lib.hid ((((((((HB2.out.setCell (p := ⟨R, 0, none⟩) (Nat.le_refl R) (.int .i64 g0)).setCell (p := ⟨R, 1, none⟩) (Nat.le_refl R) (.int .i64 set)).setCell (p := ⟨F, 0, none⟩) hRle (.int .i64 0)).setCell (p := ⟨F, 1, none⟩) hRle (.int .i64 0)).setCell (p := ⟨F, 0, none⟩) hRle (.int .i64 0)).setCell (p := ⟨F, 1, none⟩) hRle (.int .i64 0)).drew))
      have HRS := Lib.hid (((((((HS2.out.set0 g0).set1 set).else_ hRF HSM.out.1 HSM.out.2 (i := 0) (u := .int .i64 0)).else_ hRF HSM.out.1 HSM.out.2 (i := 1) (u := .int .i64 0)).else_ hRF HSM.out.1 HSM.out.2 (i := 0) (u := .int .i64 0)).else_ hRF HSM.out.1 HSM.out.2 (i := 1) (u := .int .i64 0)).bel (Bel.refl _).drew)
      clear T2 HS2 HB2 HS1 HB1
      go_wp2
      go_region
      go_wp2
      obtain ⟨t0, t1, _, _⟩ := TT.out
      clear TT
      revert HBF
      revert HRS
      revert t0
      revert t1
      generalize (((((((w2.setCell ⟨R, 0, none⟩ (.int .i64 g0)).setCell ⟨R, 1, none⟩ (.int .i64 set)).setCell ⟨F, 0, none⟩ (.int .i64 0)).setCell ⟨F, 1, none⟩ (.int .i64 0)).setCell ⟨F, 0, none⟩ (.int .i64 0)).setCell ⟨F, 1, none⟩ (.int .i64 0)).drew) = X
      intro t1 t0 HRS HBF
      refine bodyPost_ret (v := .tuple #[.int .i64 N, .agg #[.int .i64 0, .int .i64 0]]) (by simp [results, Tryz.results24, go_sem, t0, t1]) rfl ?_
      rw [← HO.out, HE.out]
      dsimp only
      rw [if_neg h0]
      exact ⟨rfl, _, _, HRS.out, HBF.out⟩
end Go.Proofs.YtphnahabonfmmaaGreatDoor.D
