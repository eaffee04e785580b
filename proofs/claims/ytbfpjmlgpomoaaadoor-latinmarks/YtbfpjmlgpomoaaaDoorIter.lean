/- What 'Numbers' tells its caller of a text of lines, number by number: the list that the lines tell, in order, until it is told to stop. Tables as they are laid. -/
import Derived.RangeFuncNested
import Derived.RangeFuncBound
import Derived.RangeFuncCalls
import Derived.RangeFuncLeaves
import Derived.Shelf.Abstract
import Derived.Shelf.RegionOpen
import Derived.WalkKit
import Derived.OwnWalkIn
import Derived.TacticsInMore
import Derived.LoopNIn
import Derived.LoopIn
import Derived.Test.YtbfpjmlgpomoaaaDoorChar
namespace Go.Proofs.YtbfpjmlgpomoaaaDoor.U
open Go.RowKit Go.Shelf
set_option linter.unusedVariables false

theorem outW_append (n : Int) : ∀ (a b : List (List UInt8)), outW n (a ++ b) = outW n a ++ outW (n + a.length) b
  | [], b => by simp [outW]
  | x :: a, b => by
    simp only [List.cons_append, outW, List.append_assoc, outW_append (n + 1) a b, List.length_cons, Int.natCast_add, Int.natCast_one]
    rw [show n + 1 + (a.length : Int) = n + ((a.length : Int) + 1) by omega]
theorem out_at {wds : List (List (List UInt8))} {k : Nat} {h : List UInt8} {t : List (List UInt8)} (hk : wds[k]? = some (h :: t)) : (wds.take (k + 1)).flatMap outL = (wds.take k).flatMap outL ++ outW (num (nm h)) t := by
  rw [List.take_add_one, hk, List.flatMap_append]
  simp [outL]
theorem out_at0 {wds : List (List (List UInt8))} {k : Nat} (hk : wds[k]? = some []) : (wds.take (k + 1)).flatMap outL = (wds.take k).flatMap outL := by
  rw [List.take_add_one, hk, List.flatMap_append]
  simp [outL]
theorem cut_at {α : Type} {l : List α} {k : Nat} {x : α} (h : l[k]? = some x) : l = l.take k ++ x :: l.drop (k + 1) := by
  obtain ⟨hlt, hv⟩ := List.getElem?_eq_some_iff.1 h
  conv => lhs; rw [← List.take_append_drop k l, List.drop_eq_getElem_cons hlt, hv]
theorem out_next {S : ByteArray} {tb : List (Int × Int)} {lns : List (List UInt8)} {wds : List (List (List UInt8))} (hG : Good S tb lns wds) {k j : Nat} {h x : List UInt8} {t : List (List UInt8)} (hk : wds[k]? = some (h :: t)) (hj : t[j]? = some x) (hx : x ≠ [45]) :
    ∃ rest, tb = ((wds.take k).flatMap outL ++ outW (num (nm h)) (t.take j)) ++ (num (nm h) + j, chr x) :: rest := by
  have h1 := cut_at hk
  have h2 := cut_at hj
  have h3 : (t.take j).length = j := by
    have := (List.getElem?_eq_some_iff.1 hj).1
    simp; omega
  refine ⟨outW (num (nm h) + j + 1) (t.drop (j + 1)) ++ (wds.drop (k + 1)).flatMap outL, ?_⟩
  rw [← hG.out]
  conv => lhs; rw [h1]
  rw [List.flatMap_append, List.flatMap_cons]
  simp only [outL]
  conv => lhs; rw [h2]
  rw [outW_append, h3]
  simp [outW, hx]
theorem out_snoc {j : Nat} {n : Int} {x : List UInt8} {t : List (List UInt8)} (hj : t[j]? = some x) : outW n (t.take (j + 1)) = outW n (t.take j) ++ (if x = [45] then [] else [(n + j, chr x)]) := by
  have h3 : (t.take j).length = j := by
    have := (List.getElem?_eq_some_iff.1 hj).1
    simp; omega
  rw [List.take_add_one, hj, Option.toList_some, outW_append, h3]
  simp [outW]

theorem line_at {S : ByteArray} {tb : List (Int × Int)} {lns : List (List UInt8)} {wds : List (List (List UInt8))} (hG : Good S tb lns wds) {k : Nat} (hk : k < lns.length) : ∃ l, lns[k]? = some l ∧ l.length < 1000 ∧ wds[k]? = some (Lib.fieldsD l) ∧ okL (Lib.fieldsD l) = true := by
  obtain ⟨l, hl⟩ : ∃ l, lns[k]? = some l := ⟨lns[k]'hk, by simp⟩
  have hw : wds[k]? = some (Lib.fieldsD l) := by rw [← hG.words, List.getElem?_map, hl]; rfl
  have ho := List.all_eq_true.1 hG.ok _ (List.mem_of_getElem? hw)
  have hs := List.all_eq_true.1 hG.small _ (List.mem_of_getElem? hl)
  exact ⟨l, hl, by simpa using hs, hw, ho⟩
theorem okL_true {h : List UInt8} {t : List (List UInt8)} (ho : okL (h :: t) = true) : (∀ c ∈ nm h, isD c = true) ∧ 1 ≤ h.length ∧ h.length ≤ 4 ∧ num (nm h) < 65536 ∧ (∀ x ∈ t, okW x = true) ∧ t.length < 100 ∧ 1 ≤ t.length := by
  simp only [okL, Bool.and_eq_true, decide_eq_true_eq, List.all_eq_true] at ho
  exact ⟨ho.1.1.1.1.1.1, ho.1.1.1.1.1.2, ho.1.1.1.1.2, ho.1.1.1.2, ho.1.1.2, ho.1.2, ho.2⟩

/-- A row of strings. -/
def Srow (W : World) (g : Nat) (xs : List (List UInt8)) : Prop := ∀ i x, xs[i]? = some x → W.cell? ⟨g, i, none⟩ = some (.string ⟨x.toArray⟩)
/-- Nothing that was there is changed, but one block. -/
def Kept (l : Nat) (W W' : World) : Prop := W.heap.size ≤ W'.heap.size ∧ ∀ j, j ≠ l → j < W.heap.size → W'.heap[j]? = W.heap[j]?
theorem Srow.bel {W W' : World} {g : Nat} {xs : List (List UInt8)} (h : Srow W g xs) (hb : Bel W W') : Srow W' g xs := fun i x hx => (Below.cell hb (p := ⟨g, i, none⟩) (cell_block (h i x hx))).trans (h i x hx)
theorem Srow.kept {W W' : World} {g l : Nat} {xs : List (List UInt8)} (h : Srow W g xs) (hb : Kept l W W') (hg : g ≠ l) : Srow W' g xs := fun i x hx => by
  have h1 := h i x hx
  have h2 := hb.2 g hg (cell_block h1)
  simp only [World.cell?] at h1 ⊢
  rw [h2]
  exact h1

theorem cells_alloc (w : World) (cs : Array Value) (t : TypeId) (i : Nat) : (w.alloc (.cells cs t)).cell? ⟨w.heap.size, i, none⟩ = cs[i]? := by
  have h : (w.alloc (.cells cs t)).heap[w.heap.size]? = some (.cells cs t) := World.alloc_heap_new w _
  simp only [World.cell?, h]
  rfl
theorem srow_own {w : World} {base A n c : Nat} {xs : List (List UInt8)} (h : w.ownsRow base 9 1 (.slice (some ⟨A, 0, none⟩) n c) n (xs.map fun x => Value.string ⟨x.toArray⟩)) : Srow w A xs := fun i x hx => by
  have := World.ownsRow.cells h (g := A) rfl i (.string ⟨x.toArray⟩) (by simp [hx])
  rw [addr_add, Nat.zero_add] at this
  exact this
def Rel1 (J : List (Int × Int) → World → Prop) (lns : List (List UInt8)) (wds : List (List (List UInt8))) (M g : Nat) (i : Value) (wr : World) : Prop :=
  ∃ k : Nat, k ≤ M ∧ i = .int .i64 k ∧ J ((wds.take k).flatMap outL) wr ∧ Srow wr g lns

def Rel2 (J : List (Int × Int) → World → Prop) (lns : List (List UInt8)) (wds : List (List (List UInt8))) (g A k : Nat) (st : Int) (h : List UInt8) (t : List (List UInt8)) (i : Value) (wr : World) : Prop :=
  ∃ j : Nat, j ≤ t.length ∧ i = .int .i64 j ∧ J ((wds.take k).flatMap outL ++ outW st (t.take j)) wr ∧ Srow wr g lns ∧ Srow wr A (h :: t)

set_option maxRecDepth 100000 in
set_option maxHeartbeats 2000000 in
theorem numbers_in (n l : Nat) (h1 : 1 ≤ n) (w : World) (hT : Tz w) (S : ByteArray) (tb : List (Int × Int)) (lns : List (List UInt8)) (wds : List (List (List UInt8))) (hG : Good S tb lns wds) (J Jx : List (Int × Int) → World → Prop)
    (hJb : ∀ pre W, J pre W → Bel w W) (hJ : ∀ pre W W', J pre W → Bel W W' → J pre W')
    (hY : ∀ pre x W, J pre W → (∃ rest, tb = pre ++ x :: rest) → YieldAt Fence.wide (n - 1) Tryd.prog l #[.int .i64 x.1, .int .i32 x.2] W fun e W' =>
      (e = .returned (.bool true) ∧ J (pre ++ [x]) W' ∧ Kept l W W') ∨ (e = .returned (.bool false) ∧ Jx (pre ++ [x]) W'))
    (W : World) (hl : l < W.heap.size) (h0 : J [] W) :
    CallsIn Fence.wide n Tryd.prog 14 #[.string S, .func (.yield l) #[] #[]] W fun e W' => (∃ v, e = .returned v) ∧ (J tb W' ∨ ∃ pre, Jx pre W') := by
  have HT := Lib.hid (fun W h => (hT.bel (hJb [] W h) : Tz W))
  have HGd := Lib.hid hG
  have H0 := Lib.hid h0
  obtain ⟨M, hM⟩ : ∃ M, M = lns.length := ⟨_, rfl⟩
  have hM2 : M < 100 := by rw [hM]; exact hG.short
  have hM1 : Lib.countB S nl + 1 = M := by rw [hG.count, hM]
  have HMl := Lib.hid hM
  clear h0 hG hM
  refine callsIn_of_wp Tryd.func14 rfl trivial ?_ rfl
  simp only [Tryd.ntmps14, List.size_toArray, List.length_cons, List.length_nil, Nat.reduceAdd, Nat.reduceSub, Array.replicate_succ, Array.replicate_zero, List.push_toArray, List.append_toArray, List.nil_append, List.cons_append]
  obtain ⟨m, hm⟩ := (HT.out _ H0.out).2.2.2
  gi_wp2_with fail
  refine ⟨trivial, ?_⟩
  gi_at_call 17
  refine (callsIn_wide.2 (strings_Split S nl m _ (Nat.lt_trans HGd.out.size (by decide)) hm (by decide))).mono ?_
  rintro e w2 ⟨rfl, rfl⟩
  rw [HGd.out.lines, hM1]
  have hrow : Srow (W.alloc (.cells ((lns.map fun l => (⟨l.toArray⟩ : ByteArray)).map Value.string).toArray 9)) W.heap.size lns := fun i x hx => by
    have h := cells_alloc W ((lns.map fun l => (⟨l.toArray⟩ : ByteArray)).map Value.string).toArray 9 i
    rw [h]
    simp [hx]
  have hb2 : Bel W (W.alloc (.cells ((lns.map fun l => (⟨l.toArray⟩ : ByteArray)).map Value.string).toArray 9)) := (Bel.refl W).alloc _
  have H2 := Lib.hid (hJ _ _ _ H0.out hb2)
  have hgl : l < W.heap.size := hl
  generalize W.heap.size = g at hrow hgl ⊢
  generalize W.alloc (.cells ((lns.map fun l => (⟨l.toArray⟩ : ByteArray)).map Value.string).toArray 9) = w2 at hrow hb2 H2 ⊢
  have HR := Lib.hid hrow
  have HG := Lib.hid hgl
  have HJ := Lib.hid hJ
  have HY := Lib.hid hY
  clear hrow hgl hb2 hm H0 hl hJ hY hM1
  gi_wp2_with fail
  gi_loopw [13] (fun i wr => Rel1 J lns wds M g i wr) (fun i _ => M - (intOf i).toNat)
  case atStart => exact ⟨0, Nat.zero_le _, rfl, by simpa using H2.out, HR.out⟩
  case round =>
    obtain ⟨k, hk, rfl, hJk, hrow⟩ := hrel
    have HJk := Lib.hid hJk
    have HRk := Lib.hid hrow
    clear hJk hrow
    by_cases hlt : k < M
    · obtain ⟨L, hL, hLs, hw, ho⟩ := line_at HGd.out (k := k) (by rw [← HMl.out]; exact hlt)
      have hc := HRk.out k L hL
      gi_wp2_with fail
      refine ⟨trivial, ?_⟩
      gi_at_call 18
      have HTk := Lib.hid (hT.bel (hJb _ _ HJk.out))
      refine (callsIn_wide.2 (strings_Fields_any ⟨L.toArray⟩ wr (by rw [size_of]; omega) HTk.out.1 HTk.out.2.2.1)).mono ?_
      rintro e w3 ⟨A, rfl, hA, hown, hb3⟩
      rcases hf : Lib.fieldsD L with _ | ⟨h, t⟩
      · simp only [hf] at hown hw ⊢
        have HJ3 := Lib.hid (show J ((wds.take (k + 1)).flatMap outL) w3 by
          rw [out_at0 hw]
          exact HJ.out _ _ _ HJk.out hb3)
        have HR3 := Lib.hid (HRk.out.bel hb3)
        clear hown hb3 HJk HRk hc hA HTk ho hf hL hLs hw
        gi_wp2_with fail
        exact ⟨⟨k + 1, by omega, (by first | rfl | (congr 1; omega)), HJ3.out, HR3.out⟩, by simp [intOf]; omega⟩
      simp only [hf] at hown hw ho ⊢
      have hs := srow_own hown
      have HJ3 := Lib.hid (HJ.out _ _ _ HJk.out hb3)
      have HR3 := Lib.hid (HRk.out.bel hb3)
      have HS3 := Lib.hid hs
      have HA := Lib.hid (Nat.lt_of_lt_of_le (Nat.lt_trans HG.out (cell_block hc)) hA : l < A)
      have HT3 := Lib.hid (hT.bel (hJb _ _ HJ3.out))
      obtain ⟨o1, o2, o3, o4, o5, o6, o7⟩ := okL_true ho
      have HO := Lib.hid o5
      have hex := hex_is (nm h) w3 o1 (by rw [nm_length]; omega) (by rw [nm_length]; omega) o4
      rw [str_nm] at hex
      have n0 := (num_range o1 (by rw [nm_length]; omega)).1
      have hc0 : w3.cell? ⟨A, 0, none⟩ = some (.string ⟨h.toArray⟩) := hs 0 h rfl
      have HOA := Lib.hid (out_at hw)
      have HON := Lib.hid (fun j x (hj : t[j]? = some x) hx => out_next HGd.out hw hj hx)
      generalize hst : num (nm h) = st at hex n0 o4 HOA HON
      generalize hNt : t.length = N at o6 o7
      have o8 : ¬ N = 0 := by omega
      rw [show (h :: t).length = N + 1 by rw [← hNt]; rfl]
      have HN := Lib.hid hNt
      have HH := Lib.hid hex
      clear hex hs hown hb3 HJk HRk hc hA HTk o1 o2 o3 o5 ho hf hL hLs hNt hst hw
      gi_wp2_with fail
      refine ⟨trivial, ?_⟩
      gi_at_call 19
      refine (callsIn_wide.2 HH.out).mono ?_
      rintro e w4 ⟨rfl, hb4⟩
      have HJ4 := Lib.hid (HJ.out _ _ _ HJ3.out hb4)
      have HR4 := Lib.hid (HR3.out.bel hb4)
      have HS4 := Lib.hid (HS3.out.bel hb4)
      clear hb4 HH HJ3 HR3 HS3 HT3 hc0
      gi_wp2_with fail
      gi_loopw [30] (fun i wr => Rel2 J lns wds g A k st h t i wr) (fun i _ => N - (intOf i).toNat)
      case atStart => exact ⟨0, Nat.zero_le _, rfl, by simpa [outW] using HJ4.out, HR4.out, HS4.out⟩
      case round =>
        obtain ⟨j, hj, rfl, hJj, hrow, hs⟩ := hrel
        rw [HN.out] at hj
        have HJj := Lib.hid hJj
        have HRj := Lib.hid hrow
        have HSj := Lib.hid hs
        clear hJj hrow hs
        by_cases hjt : j < N
        · obtain ⟨x, hx⟩ : ∃ x, t[j]? = some x := ⟨t[j]'(by rw [HN.out]; exact hjt), by simp⟩
          have hc : wr.cell? ⟨A, 1 + j, none⟩ = some (.string ⟨x.toArray⟩) := by rw [Nat.add_comm]; exact HSj.out (j + 1) x (by simpa using hx)
          have HX := Lib.hid hx
          have HC := Lib.hid (fun w h => char_is x w (HO.out x (List.mem_of_getElem? hx)) h)
          clear hx
          by_cases hx45 : x = [45]
          · have hb : ((⟨x.toArray⟩ : ByteArray).toList == [45]) = true := by
              rw [ByteArray.toList_eq]
              simpa using hx45
            have HE := Lib.hid hx45
            clear hx45
            gi_wp2_with fail
            refine ⟨trivial, ?_⟩
            gi_wp2_with fail
            refine ⟨fun _ h => (by cases h), ?_⟩
            gi_wp2_with fail
            refine ⟨⟨j + 1, by rw [HN.out]; omega, (by first | rfl | (congr 1; omega)), ?_, HRj.out, HSj.out⟩, by simp [intOf]; omega⟩
            rw [out_snoc HX.out, if_pos HE.out, List.append_nil]
            exact HJj.out
          · have hb : ((⟨x.toArray⟩ : ByteArray).toList == [45]) = false := by
              rw [ByteArray.toList_eq]
              simpa using hx45
            have hb2 : (x == [45]) = false := by simpa using hx45
            have HE := Lib.hid hx45
            clear hx45
            gi_wp2_with fail
            refine ⟨trivial, ?_⟩
            gi_at_call 20
            refine (callsIn_wide.2 (HC.out _ (hT.bel (hJb _ _ HJj.out)))).mono ?_
            rintro e w5 ⟨rfl, hb5⟩
            have HJ5 := Lib.hid (HJ.out _ _ _ HJj.out hb5)
            have HR5 := Lib.hid (HRj.out.bel hb5)
            have HS5 := Lib.hid (HSj.out.bel hb5)
            obtain ⟨fn, tmps, assign, body, hy, hR⟩ := HY.out _ (st + j, chr x) w5 HJ5.out (HON.out j x HX.out HE.out)
            dsimp only at hy
            have HRo := Lib.hid hR
            clear hR hb5
            gi_wp2_with fail
            refine HRo.out.mono ?_
            rintro e w6 (⟨rfl, hJ6, hk6⟩ | ⟨rfl, hJx6⟩)
            · have HJ6 := Lib.hid hJ6
              have HR6 := Lib.hid (HR5.out.kept hk6 (by have := HG.out; omega))
              have HS6 := Lib.hid (HS5.out.kept hk6 (by have := HA.out; omega))
              clear hJ6 hk6 hy
              gi_wp2_with fail
              refine ⟨⟨j + 1, by rw [HN.out]; omega, (by first | rfl | (congr 1; omega)), ?_, HR6.out, HS6.out⟩, by simp [intOf]; omega⟩
              rw [out_snoc HX.out, if_neg HE.out, ← List.append_assoc]
              exact HJ6.out
            · have HJ6 := Lib.hid hJx6
              clear hJx6 hy
              gi_wp2_with fail
              refine bodyPost_ret (results_none rfl _ _ _) rfl ?_
              exact ⟨⟨_, rfl⟩, .inr ⟨_, HJ6.out⟩⟩
        · have hjN : j = N := by omega
          have HJ7 := Lib.hid (show J ((wds.take (k + 1)).flatMap outL) wr by
            rw [HOA.out]
            have h := HJj.out
            rwa [List.take_of_length_le (l := t) (by rw [HN.out]; omega)] at h)
          clear HJj
          gi_wp2_with fail
          exact ⟨⟨k + 1, by omega, (by first | rfl | (congr 1; omega)), HJ7.out, HRj.out⟩, by simp [intOf]; omega⟩
    · have hk6 : k = M := by omega
      have HJ8 := Lib.hid (show J tb wr by
        have h := HJk.out
        rw [hk6, HMl.out] at h
        rwa [List.take_of_length_le (l := wds) (by rw [← HGd.out.words]; simp), HGd.out.out] at h)
      clear HJk
      gi_wp2_with fail
      go_end0
      exact ⟨⟨_, rfl⟩, .inl HJ8.out⟩
end Go.Proofs.YtbfpjmlgpomoaaaDoor.U
