/- What bytes.TrimLeft answers at the set of bytes that may stand ahead of a set's last bytes: the slice behind them. -/
import Derived.Test.YthdggdjaicfapaaDoorEMath
import Derived.Test.YthdggdjaicfapaaDoorChecked
import Derived.Test.YthdggdjaicfapaaDoorBase
import Derived.Lib.AsciiSet
import Derived.Lib.IndexBytes
import Derived.Laws.ResultCell
import Derived.Deep.LoopGhost
import Derived.Deep.WholeRow
import Derived.Laws.Strings3
namespace Go.Proofs.YthdggdjaicfapaaDoor.U
open Go.RowKit
set_option linter.unusedVariables false

theorem hi50 : (Tryd.prog.info? 50).map (·.size) = some 256 := by kernel_rfl
theorem hv50 (w : World) : (zeroValue 50).run Tryd.prog w = .ok (.agg (Array.replicate 256 (.bool false))) w := by kernel_rfl
section
variable {P : Program} {w : World}
theorem wpl_store_row {ops : Array Oper} {rest : List Oper} {o : Oper} {a : Act} {Q : Exit → Act → World → Prop} (hgd : o.guard = none) (ty : TypeId) (x y : Operand) (ho : o.op = .store ty x y)
    (g : Nat) (cells : Array Value) (hx : a.eval x = .pointer (some ⟨g, 0, none⟩)) (hy : a.eval y = .agg cells)
    (t : TypeId) (old : Array Value) (w' : World) (hg : w'.heap.size = g) (hw : w = w'.alloc (.cells old t)) (hi : (P.info? ty).map (·.size) = some cells.size)
    (hold : old.size = cells.size) (h1 : cells.all (·.oneCell') = true)
    (h : wpList P ops Q rest (a.put o.dst undef) (w'.alloc (.cells cells t))) : wpList P ops Q (o :: rest) a w := by
  subst hg
  subst hw
  refine wpList_plain hgd fun K hK => ?_
  refine wp_store_row ty x y ho w'.heap.size cells hx hy t old (heap_alloc_last w' _) hi hold h1 ?_
  rw [World.setRow_alloc_new]
  exact hK _ _ h
end
def cutS : ByteArray := ⟨#[36, 40, 44, 41, 45]⟩
set_option maxHeartbeats 4000000 in
set_option maxRecDepth 1000000 in
theorem set_is (w : World) : Calls Tryd.prog 20 #[.string cutS] w fun e w' => e = .returned (.tuple #[.agg (Lib.setCells cutS.data.toList), .bool true]) ∧ w' = w.alloc (.cells (Lib.setCells cutS.data.toList) 50) := by
  have hv := hv50
  obtain ⟨chars, hch⟩ : ∃ c, cutS = c := ⟨_, rfl⟩
  have hsz0 : chars.size = 5 := by rw [← hch]; rfl
  have HA : Hid (∀ (j : Nat) b, chars.data.toList[j]? = some b → b.toNat < 128) := Lib.hid (by
    rw [← hch]
    intro j b h
    have : b ∈ cutS.data.toList := List.mem_of_getElem? h
    have k : ∀ b ∈ cutS.data.toList, b.toNat < 128 := by decide
    exact k b this)
  rw [hch]
  have hs : chars.size < 4294967281 := by omega
  clear hch hsz0
  go_enter Tryd.func20, Tryd.ntmps20
  go_wp2
  rw [← Lib.setCells_nil]
  go_loopg [4] chars.size (fun g s4 wx => ∃ i : Nat, i + g = chars.size ∧ s4 = .int .i64 i ∧ wx = w.alloc (.cells (Lib.setCells (chars.data.toList.take i)) 50))
  case atStart => exact ⟨0, by omega, rfl, rfl⟩
  case round =>
    obtain ⟨i, hig, rfl, rfl⟩ := hrel
    cases gk with
    | zero =>
      obtain rfl : i = chars.size := by omega
      have hiz : ¬ ((chars.size : Int) < (chars.size : Int)) := by omega
      rw [show chars.data.toList.take chars.size = chars.data.toList from List.take_of_length_le (by rw [← Lib.size_eq]; exact Nat.le_refl _)]
      have hsz := Lib.hid (Lib.setCells_size chars.data.toList)
      have h1 := Lib.hid (Lib.setCells_one chars.data.toList)
      generalize hV : Lib.setCells chars.data.toList = V at hsz h1 ⊢
      replace hV := Lib.hid hV
      have hi : Hid ((Tryd.prog.info? 50).map (·.size) = some V.size) := Lib.hid (by rw [hsz.out]; exact hi50)
      go_wp2_with (first
        | ((with_reducible (show wpList _ _ _ (Oper.mk _ (Op.load 50 _) _ _ _ _ :: _) _ _)); refine wpList_load_row rfl 50 _ rfl w.heap.size rfl 50 V (0, 0) _ (heap_alloc_new w _) Tryd.underlying50 rfl hi.out ?_)
        | ((with_reducible (show wpList _ _ _ (Oper.mk _ (Op.store 50 _ _) _ _ _ _ :: _) _ _)); refine wpl_store_row rfl 50 _ _ rfl w.heap.size V rfl rfl 50 V w rfl rfl hi.out rfl h1.out ?_)
        | fail)
      have hld := run_loadVar_new (P := Tryd.prog) w 50 V 256 4 (by kernel_rfl) hi.out
      refine bodyPost_ret (v := .tuple #[.agg V, .bool true]) ?_ rfl ⟨by rw [hV.out], by rw [hV.out]⟩
      rw [results_cell_tmp rfl]
      simp [asAddr, Result.andThen, hld, Act.put]
    | succ g =>
      have hi : i < chars.size := by omega
      have hiz : (i : Int) < (chars.size : Int) := by omega
      obtain ⟨x, hx⟩ : ∃ x : UInt8, chars[i]'hi = x := ⟨_, rfl⟩
      have hxl : chars.data.toList[i]? = some x := by rw [← hx]; exact Lib.data_getElem? chars i hi
      have hx128 : ¬ ((128 : Int) ≤ (x.toNat : Int)) := by have := HA.out i x hxl; omega
      have hx256 : (x.toNat : Int) < 256 := by have := HA.out i x hxl; omega
      have hcell := Lib.setCells_at (chars.data.toList.take i) x
      have Hx : Hid (chars.data.toList[i]? = some x) := Lib.hid hxl
      clear hxl
      go_wp2
      go_roundg g
      case measure => omega
      case rel => exact ⟨i + 1, by omega, by first | rfl | simp, by rw [List.take_add_one, Hx.out]; simp only [Option.toList]; rw [Lib.setCells_snoc]⟩

theorem set_holds (b k : Nat) (v : Bool) (w : World) (hk : k < 256) (hc : w.cell? ⟨b, k, none⟩ = some (.bool v)) :
    Calls Tryd.prog 28 #[.pointer (some ⟨b, 0, none⟩), .int .u8 k] w fun e w' => e = .returned (.bool v) ∧ w = w' := by
  have hk' : (k : Int) < 256 := by omega
  go_enter Tryd.func28, Tryd.ntmps28
  go_wp2
  go_ret
  exact ⟨rfl, rfl⟩

/-- A set of these bytes lies in block b. -/
def SetIn (w : World) (b : Nat) : Prop := ∀ k : Nat, k < 256 → w.cell? ⟨b, k, none⟩ = some (.bool (isHead k))
theorem set_in (w : World) : SetIn (w.alloc (.cells (Lib.setCells cutS.data.toList) 50)) w.heap.size := fun k hk => by
  have h1 := World.cell?_alloc_mark w (Lib.setCells cutS.data.toList) 50 (0, 0) k
  refine h1.trans ?_
  have h2 := Lib.setCells_at cutS.data.toList (UInt8.ofNat k)
  have e : (UInt8.ofNat k).toNat = k := by simp; omega
  rw [e] at h2
  rw [h2]
  have h3 : ∀ k, k < 256 → cutS.data.toList.contains (UInt8.ofNat k) = isHead k := by decide +kernel
  rw [h3 k hk]

/-- What is left of a list behind the bytes of the set, as a slice. -/
def RestIs (w : World) (t : List Int) (v : Value) : Prop := ∃ A m c, v = .slice A m c ∧ (restOf t).length = m ∧ m ≤ c ∧ Rd w w.heap.size .u8 A (restOf t) ∧ (A = none → c = 0)
theorem RestIs.bel {w w' : World} {t : List Int} {v : Value} (h : RestIs w t v) (hb : Bel w w') : RestIs w' t v := by
  obtain ⟨A, m, c, h1, h2, h3, h4, h5⟩ := h
  exact ⟨A, m, c, h1, h2, h3, (h4.bel hb).here, h5⟩
def RestPost (w : World) (t : List Int) (e : Ending) (w' : World) : Prop := ∃ v, e = .returned v ∧ RestIs w' t v ∧ Bel w w'
def TrimRel (W : World) (t : List Int) (v : Value) : Prop := ∃ r A m c, v = .slice A m c ∧ r.length = m ∧ m ≤ c ∧ Rd W W.heap.size .u8 A r ∧ (A = none → c = 0) ∧ restOf r = restOf t ∧ ∀ x ∈ r, 0 ≤ x ∧ x < 256
theorem rest_yes {x : Int} {r : List Int} (h : isHead x = true) : restOf (x :: r) = restOf r := by simp [restOf, List.dropWhile, h]
theorem rest_no {x : Int} {r : List Int} (h : isHead x = false) : restOf (x :: r) = x :: r := by simp [restOf, List.dropWhile, h]

def lenOf (v : Value) : Nat := match v with | .slice _ n _ => n | _ => 0
set_option maxHeartbeats 1000000 in
theorem trim_ascii (A : Option Addr) (n c b : Nat) (t : List Int) (w : World) (hA : Rd w w.heap.size .u8 A t) (hn : t.length = n) (hc : n ≤ c) (h0 : A = none → c = 0) (hb : ∀ x ∈ t, 0 ≤ x ∧ x < 256) (hS : SetIn w b) :
    Calls Tryd.prog 21 #[.slice A n c, .pointer (some ⟨b, 0, none⟩)] w fun e w' => ∃ v, e = .returned v ∧ RestIs w t v ∧ w = w' := by
  have HI : Hid (TrimRel w t (.slice A n c)) := Lib.hid ⟨t, A, n, c, rfl, hn, hc, hA, h0, rfl, hb⟩
  have HS := Lib.hid hS
  clear hA hn hc h0 hb hS
  go_enter Tryd.func21, Tryd.ntmps21
  go_wp2
  go_loop [0] (fun v => TrimRel w t v) (fun v => lenOf v)
  case atStart => exact HI.out
  case round =>
    clear HI
    obtain ⟨r, A1, m, d, rfl, hm, hd, hr, hnil, hrest, hb⟩ := hrel
    rcases r with _ | ⟨x, r⟩
    · obtain rfl : m = 0 := hm.symm
      have hR : Hid (RestIs w t (.slice none 0 0)) := Lib.hid ⟨none, 0, 0, rfl, by rw [← hrest]; rfl, by omega, by rw [← hrest]; exact Rd.nil, fun _ => rfl⟩
      clear hr hnil hrest hb hm
      go_wp2
      go_ret
      exact ⟨_, rfl, hR.out, rfl⟩
    · obtain ⟨m, rfl⟩ : ∃ k, m = k + 1 := ⟨m - 1, by simp at hm; omega⟩
      obtain ⟨g, o, rfl, hg, hcell⟩ := hr 0 x rfl
      rw [Nat.add_zero] at hcell
      obtain ⟨k, rfl⟩ : ∃ k : Nat, x = k := ⟨x.toNat, by have := (hb x (by simp)).1; omega⟩
      have hk : k < 256 := by have := (hb k (by simp)).2; omega
      obtain ⟨v, hv⟩ : ∃ v, isHead (k : Int) = v := ⟨_, rfl⟩
      have HC : Hid (w.cell? ⟨b, k, none⟩ = some (.bool v)) := Lib.hid (by rw [← hv]; exact HS.out k hk)
      have hpos : (0 : Int) < ((m + 1 : Nat) : Int) := by omega
      rcases v with _ | _
      · have hR : Hid (RestIs w t (.slice (some ⟨g, o, none⟩) (m + 1) d)) := Lib.hid ⟨_, _, _, rfl, by rw [← hrest, rest_no hv]; exact hm, hd, by rw [← hrest, rest_no hv]; exact hr, fun e => by cases e⟩
        have hne : (((m + 1 : Nat) : Int) == 0) = false := by simp; omega
        clear hr hnil hrest hb hm hv
        go_wp2_with (go_at_call 28; (with_reducible refine (set_holds _ _ _ _ hk HC.out).mono ?_); rintro e w' ⟨rfl, rfl⟩)
        go_ret
        exact ⟨_, rfl, hR.out, rfl⟩
      · rw [rest_yes hv] at hrest
        have hm' : r.length = m := by simpa using hm
        have hb' : ∀ x ∈ r, 0 ≤ x ∧ x < 256 := fun x hx => hb x (by simp [hx])
        by_cases h1 : d = 1
        · subst h1
          have hm0 : m = 0 := by omega
          subst hm0
          have hr0 : r = [] := List.eq_nil_of_length_eq_zero hm'
          subst hr0
          have hR : ∀ A', A' ≠ none → TrimRel w t (.slice A' 0 0) := fun A' ha => ⟨[], A', 0, 0, rfl, rfl, by omega, Rd.nil, fun _ => rfl, hrest, by simp⟩
          have HR := Lib.hid hR
          clear hr hnil hrest hb hm hv hR hm' hb'
          go_wp2_with (go_at_call 28; (with_reducible refine (set_holds _ _ _ _ hk HC.out).mono ?_); rintro e w' ⟨rfl, rfl⟩)
          go_round
          case rel => exact HR.out _ (by simp)
          case measure => simp [lenOf]
        · obtain ⟨d, rfl⟩ : ∃ k, d = k + 1 := ⟨d - 1, by omega⟩
          have hd' : m ≤ d := by omega
          have hd0 : (1 : Int) ≤ ((d + 1 : Nat) : Int) := by omega
          have hne : ¬ ((d + 1 : Nat) = 1) := by omega
          have HR : Hid (TrimRel w t (.slice (some ⟨g, o + 1, none⟩) m d)) := Lib.hid ⟨r, _, m, d, rfl, hm', hd', by have := hr.drop (k := 1); simpa using this, (fun e => by cases e), hrest, hb'⟩
          clear hr hnil hrest hb hm hv hm' hb'
          go_wp2_with (go_at_call 28; (with_reducible refine (set_holds _ _ _ _ hk HC.out).mono ?_); rintro e w' ⟨rfl, rfl⟩)
          go_round
          case rel => exact HR.out
          case measure => simp [lenOf]

theorem set_of (S : ByteArray) (V : Array Value) (w : World) (h : cutS = S) (hV : Lib.setCells cutS.data.toList = V) : Calls Tryd.prog 20 #[.string S] w fun e w' => e = .returned (.tuple #[.agg V, .bool true]) ∧ w.alloc (.cells V 50) = w' := by
  subst h hV
  refine (set_is w).mono ?_
  rintro e w' ⟨rfl, rfl⟩
  exact ⟨rfl, rfl⟩
set_option maxRecDepth 1000000 in
set_option maxHeartbeats 1000000 in
theorem trim_is (A : Option Addr) (n c : Nat) (t : List Int) (S : ByteArray) (w : World) (hS : cutS = S) (hA : Rd w w.heap.size .u8 A t) (hn : t.length = n) (hc : n ≤ c) (h0 : A = none → c = 0) (hb : ∀ x ∈ t, 0 ≤ x ∧ x < 256) :
    Calls Tryd.prog 15 #[.slice A n c, .string S] w (RestPost w t) := by
  have HS := Lib.hid hS
  have hsz : S.size = 5 := by rw [← hS]; rfl
  have hs1 : S.toList.isEmpty = false := by rw [← hS, ByteArray.toList_eq]; rfl
  have hs2 : (S.toList == []) = false := by rw [← hS, ByteArray.toList_eq]; rfl
  have HB := Lib.hid hb
  have HN := Lib.hid hn
  have HA := Lib.hid hA
  have H0 := Lib.hid h0
  clear hS hb hn hA h0
  rcases n with _ | n
  · obtain rfl : t = [] := List.eq_nil_of_length_eq_zero HN.out
    go_enter Tryd.func15, Tryd.ntmps15
    go_wp2
    go_ret
    exact ⟨_, rfl, ⟨none, 0, 0, rfl, rfl, by omega, Rd.nil, fun _ => rfl⟩, Bel.refl _⟩
  · have hne : (((n + 1 : Nat) : Int) == 0) = false := by simp; omega
    have hq := Lib.setCells_size cutS.data.toList
    have h1 := Lib.hid (Lib.setCells_one cutS.data.toList)
    have hSI := Lib.hid (fun w => set_in w)
    generalize hV : Lib.setCells cutS.data.toList = V at hq h1 hSI
    replace hV := Lib.hid hV
    have hq2 := Lib.hid hq
    have hi : Hid ((Tryd.prog.info? 50).map (·.size) = some V.size) := Lib.hid (by rw [hq2.out]; exact hi50)
    clear hq
    go_enter Tryd.func15, Tryd.ntmps15
    have hv := hv50
    go_wp2_with fail
    with_reducible refine (set_of S V w HS.out hV.out).mono ?_
    rintro e w1 ⟨rfl, rfl⟩
    have hsc := run_storeCells_new (P := Tryd.prog) (w.alloc (.cells V 50)) 50 (Array.replicate 256 (.bool false)) V hi.out (by rw [hq2.out]; simp) h1.out
    rw [show (w.alloc (.cells V 50)).heap.size = w.heap.size + 1 by simp] at hsc
    go_wp2_with fail
    clear hsc
    have hw2 : Bel w ((w.alloc (.cells V 50)).alloc (.cells V 50)) := ((Bel.refl w).alloc _).alloc _
    have hSI2 := hSI.out (w.alloc (.cells V 50))
    rw [show (w.alloc (.cells V 50)).heap.size = w.heap.size + 1 by simp] at hSI2
    have HSI := Lib.hid hSI2
    have HW2 := Lib.hid hw2
    clear hSI2 hw2
    with_reducible refine (trim_ascii A (n + 1) c (w.heap.size + 1) t _ (HA.out.bel HW2.out).here HN.out hc H0.out HB.out HSI.out).mono ?_
    rintro e w2 ⟨v, rfl, hr, rfl⟩
    have HR := Lib.hid hr
    clear hr
    go_wp2_with fail
    go_ret
    exact ⟨_, rfl, HR.out, HW2.out⟩
end Go.Proofs.YthdggdjaicfapaaDoor.U
