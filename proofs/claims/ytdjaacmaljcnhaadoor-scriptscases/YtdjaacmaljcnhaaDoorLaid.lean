/- What the listed variables give the walks: the library's tables of white space and of UTF-8, cell for cell; and the wrap that hands the walk the world's shape. -/
import Derived.Test.YtdjaacmaljcnhaaDoorRows
import Derived.Test.YtdjaacmaljcnhaaDoorShelf
import Derived.WalkKit
import Derived.ProofKit
import Derived.Lay
import Derived.LaidOnce
import Derived.SevenTiedAt
import Derived.Lib.LaidTab
import Derived.Lib.LaidU8
import Derived.Shelf.Vars
import Derived.Stop.LaidErr
namespace Go.Proofs.YtdjaacmaljcnhaaDoor.U
open Go.ChangeShapes Go.WideShapes Go.ChangeAt Go.RowKit Go.Shelf
set_option linter.unusedVariables false

theorem fit8 {x : Int} (h : (Lit.int .u8 x).wf = true) : 0 ≤ x ∧ x ≤ 255 := by
  have := bounds_u8 h
  omega

def laidL : List (String × DataW Unit) := Rows.latinApartRow.laid
theorem laid_same : Rows.latinMarksRow.laid = laidL := by kernel_rfl
theorem laid_same2 : Rows.scriptsApartRow.laid = laidL := by kernel_rfl
theorem laid_same3 : Rows.scriptsMarksRow.laid = laidL := by kernel_rfl
theorem laid_same4 : Rows.scriptsCasesRow.laid = laidL := by kernel_rfl
def nSp : String := (Rows.latinApartRow.named).getD 3 ""
def nFst : String := (Rows.latinApartRow.named).getD 0 ""
def nAcc : String := (Rows.latinApartRow.named).getD 1 ""
def nWh : String := (Rows.latinApartRow.named).getD 4 ""
theorem mem_at {α : Type} {l : List α} {i : Nat} {x : α} (h : l[i]? = some x) : x ∈ l := List.mem_of_getElem? h
theorem lSp : laidL[7]? = some (nSp, Lib.tabData .u8 Lib.asciiSpaceTab) := by kernel_rfl
theorem lFst : laidL[8]? = some (nFst, Lib.firstData) := by kernel_rfl
theorem lAcc : laidL[3]? = some (nAcc, Lib.acceptData) := by kernel_rfl
theorem lWh : laidL[6]? = some (nWh, Lib.whiteData) := by kernel_rfl
theorem gSp : Tryd.prog.globalNamed nSp = some 0 := by kernel_rfl
theorem tSp : (Tryd.prog.globals[0]?).map (·.type) = some 52 := by kernel_rfl
theorem c5 : Tryd.prog.cellsOf 5 = 1 := by kernel_rfl
theorem c256 : Tryd.prog.cellsOf 52 = 256 := by kernel_rfl

theorem tz_of {W : World} (h : laidMetH Tryd.prog laidL W) (hs : W.ShapedOpen Tryd.prog) : Tz W := by
  rw [MakeChecks.laidMetH_plain _ _ _ (by kernel_rfl)] at h
  refine ⟨?_, ?_, ?_, ?_⟩
  · obtain ⟨g, t, cs, fuel, p, hg, hty, hvar, hd⟩ := Lib.laidMet.reads h (mem_at lSp)
    obtain rfl := Option.some.inj (gSp.symm.trans hg)
    obtain rfl := Option.some.inj (tSp.symm.trans hty)
    have hcs := Lib.cells_of_tab Tryd.underlying52 Tryd.underlying5 c5 c256 hd
    have e : cs = (Lib.asciiSpaceTab.map fun z => Value.int .u8 z).toArray := by
      rw [← hcs]
    exact hvar.trans (by rw [e])
  · exact utf8Tabs_of_reads (ρ := lays197_ren) { lays197 with } ⟨by kernel_rfl, by kernel_rfl, by kernel_rfl, by kernel_rfl, by kernel_rfl, by kernel_rfl, by kernel_rfl⟩ (Lib.laidMet.reads h (mem_at lFst)) (Lib.laidMet.reads h (mem_at lAcc))
  · exact whiteTab_of_reads (ρ := lays199_ren) { lays199 with } ⟨by kernel_rfl, by kernel_rfl, by kernel_rfl, by kernel_rfl, by kernel_rfl, by kernel_rfl, by kernel_rfl, by kernel_rfl⟩ (Lib.laidMet.reads h (mem_at lWh))
  · exact cell_of_shapedOpen_int (zero := #[.int .i64 0]) (t := 3) hs (Nat.le_of_ble_eq_true (by kernel_rfl)) (by kernel_rfl) rfl (by kernel_rfl) (by kernel_rfl) Tryd.underlying3

/-- A law's row from its walk, where the walk wants what is listed and the world's shape. -/
theorem wrap_shaped {H : Type} {enc : TypeId × Value → H} {a : Assume} {C : Checked} {os : Os} {f : FuncId} {fn : Func} {s : ChangeSpec} {conds : List PathCond} {apart fresh handsOn again : Bool} {X : World → Array Value → Prop}
    (hX : ∀ (w w' : World) (args : Array Value), w.heap = w'.heap → X w args → X w' args)
    (own : ownKnob C.prog.godebug = none) (started : os.Started) (noInit : C.prog.inits.idxOf? f = none) (hfn : C.prog.funcs[f]? = some fn)
    (witness : ∃ (w : World) (tape : Tape) (i : Input), w.os = os ∧ (w.forCall tape i).Shaped C.prog ∧ i.vars = [] ∧ Input.okWide C.prog (w.forCall tape i) .any w.heap.size f i ∧
      ((s.pre enc C.prog fn conds apart (w.forCall tape i).memory i.args ∧ X (w.forCall tape i).memory i.args) ∧ sizedMet enc C.prog fn (OpenSpec.ofChange s) apart (w.forCall tape i).memory i.args) ∧ a.holds C.prog (lone (Frame.enter C.prog f i.args .normal) [] (w.forCall tape i)))
    (walk : ∀ (W : World) (base : Nat) (args : Array Value) (ds gs : List (DataW H)) (before : List MemPlace),
      (∀ (j : Nat) t v, fn.params[j]? = some t → args[j]? = some v → Value.okWide C.prog W .any base t v) →
      DataW.Whole enc C.prog fn.params.toList s.vars apart W args.toList ds gs before → X W args → W.ShapedOpen C.prog →
      Calls C.prog f args W fun e W' => ∃ v, e = .returned v ∧ s.post enc C.prog fn apart fresh handsOn again W args v W') :
    ReturnsInHanded a C os f .any (fun w args => (s.pre enc C.prog fn conds apart w args ∧ X w args) ∧ sizedMet enc C.prog fn (OpenSpec.ofChange s) apart w args) (s.post enc C.prog fn apart fresh handsOn again) := by
  refine returnsInHanded_of_calls own started noInit witness fun w tape i _ hsh _ hok hpre _ => ?_
  obtain ⟨_, _, _, fn', hfn', _, _, _, _, hval⟩ := hok
  obtain rfl : fn' = fn := Option.some.inj (hfn'.symm.trans hfn)
  obtain ⟨⟨⟨ds, gs, before, hw, _⟩, hx⟩, _⟩ := hpre
  refine (walk (w.forCall tape i) w.heap.size i.args ds gs before hval (DataW.Whole.of_heap (w' := w.forCall tape i) (by rfl) hw) (hX _ _ _ (by rfl) hx) hsh).mono ?_
  rintro e W' ⟨v, rfl, hp⟩
  exact ChangeSpec.post_blind hp
end Go.Proofs.YtdjaacmaljcnhaaDoor.U
