/- Which codes each character has: the tables, checked; what having and every tell is the same, character by character. Plain mathematics. Rows of int32 that are sorted in place: what a world looks like while the sort is at work; cmp.Less. slices.partitionEqualOrdered at int32. slices.partitionOrdered at int32. slices.pdqsortOrdered at int32: its loop and its recursion, over whatever its callees do ('A': what the world is like while the row holds d). The ways meet again behind three of its tests (go_cut). slices.order2Ordered, medianOrdered, medianAdjacentOrdered at int32: they write their counter alone. slices.choosePivotOrdered at int32, where there are more than twelve. slices.breakPatternsOrdered at int32: the generator's state lies in a block of its own. -/
import Derived.Test.YtipigfgnpfhdbaaGreatDoorM5
import Derived.Test.YtipigfgnpfhdbaaGreatDoorM1
import Derived.Test.YtipigfgnpfhdbaaGreatDoorChecked
import Derived.Lib.Hide
import Derived.Sort.WalkA
import Derived.Sort.Grow
import Derived.Sort.LotD7
import Derived.Deep.QuietTactic
import Derived.BigQuiet
import Derived.Sort.WalkC
import Derived.Sort.WalkC4
import Derived.Sort.Walk13a
import Derived.Sort.LotD4
import Derived.Sort.LotA
import Derived.Sort.LotB
import Derived.Sort.LotC
import Derived.Sort.LotD3
import Derived.Deep.Cut
import Derived.Deep.LoopGhost
import Derived.Deep.WholeRow
import Derived.Shelf.SlSortCmp.Xorshift
import Derived.Sort.Walk7
import Derived.Deep.RegionHeld
namespace Go.Proofs.YtipigfgnpfhdbaaGreatDoor.G
open U
set_option linter.unusedVariables false

def fits (p : Int × Int) : Bool := decide (33 ≤ p.2) && decide (p.2 ≤ 65535)
theorem fitA : tabA.all fits = true := by kernel_rfl
theorem fitS : (List.range 6).all (fun k => (tabS k).all fits) = true := by kernel_rfl
theorem fitE : (List.range 10).all (fun k => (E.tab k).all fits) = true := by kernel_rfl
theorem fits_of {p : Int × Int} (h : fits p = true) : 33 ≤ p.2 ∧ p.2 ≤ 65535 := by
  unfold fits at h
  simpa using h
theorem tabO_some {o : Option Nat} {p : Int × Int} (h : p ∈ E.tabO o) : ∃ k, o = some k ∧ p ∈ E.tab k := by
  cases o with
  | none => cases h
  | some k => exact ⟨k, rfl, h⟩
theorem runeL_mem {n r : Int} (h : E.runeL n = (r, true)) : ∃ k, k < 10 ∧ (n, r) ∈ E.tab k := by
  obtain ⟨k, hk, hm⟩ := tabO_some (E.look_mem h)
  exact ⟨k, E.best_lt hk, hm⟩
theorem cr_true {s n : Int} (h : (cr s n).2 = true) : cr s n = ((cr s n).1, true) := Prod.ext rfl h
theorem look_some {t : List (Int × Int)} {n : Int} (h : (U.look t n).2 = true) : (n, (U.look t n).1) ∈ t := U.look_yes (Prod.ext rfl h)
theorem sg_fit {z n : Int} (hz : 8000 ≤ z) (hz2 : z ≤ 9000) (h : (S.sg z n).2 = true) : 33 ≤ (S.sg z n).1 ∧ (S.sg z n).1 ≤ 65535 := by
  unfold S.sg at h ⊢
  split
  · simp only; omega
  split
  · simp only; omega
  split
  · simp only; omega
  split
  · simp only; omega
  split
  · simp only; omega
  · rename_i h1 h2 h3 h4 h5
    rw [if_neg h1, if_neg h2, if_neg h3, if_neg h4, if_neg h5] at h
    cases h
theorem cr_fit {s n : Int} (hs : 1 ≤ s ∧ s ≤ 12) (h : (cr s n).2 = true) : 33 ≤ (cr s n).1 ∧ (cr s n).1 ≤ 65535 := by
  obtain rfl | rfl | h3 | rfl | h10 : s = 1 ∨ s = 2 ∨ (3 ≤ s ∧ s ≤ 8) ∨ s = 9 ∨ (s = 10 ∨ s = 11 ∨ s = 12) := by omega
  · rw [cr_1] at h ⊢
    unfold bas at h ⊢
    split
    · simp only; omega
    · rename_i h1
      rw [if_neg h1] at h
      cases h
  · rw [cr_2] at h ⊢
    exact fits_of (p := (n, (U.look tabA n).1)) (List.all_eq_true.1 fitA _ (look_some h))
  · obtain ⟨k, hk, hk6⟩ : ∃ k : Nat, s = 3 + (k : Int) ∧ k < 6 := ⟨(s - 3).toNat, by omega, by omega⟩
    rw [hk, cr_scripts k n hk6] at h ⊢
    exact fits_of (p := (n, (U.look (tabS k) n).1)) (List.all_eq_true.1 (List.all_eq_true.1 fitS k (List.mem_range.2 hk6)) _ (look_some h))
  · rw [cr_9] at h ⊢
    obtain ⟨k, hk, hm⟩ := runeL_mem (n := n) (r := (E.runeL n).1) (Prod.ext rfl h)
    exact fits_of (p := (n, (E.runeL n).1)) (List.all_eq_true.1 (List.all_eq_true.1 fitE k (List.mem_range.2 hk)) _ hm)
  · rw [cr_small s n h10] at h ⊢
    obtain rfl | rfl | rfl := h10
    · exact sg_fit (by omega) (by omega) h
    · show 33 ≤ (S.up n).1 ∧ (S.up n).1 ≤ 65535
      have h' : (S.up n).2 = true := h
      unfold S.up at h' ⊢
      split
      · simp only; omega
      split
      · simp only; omega
      split
      · simp only; omega
      · rename_i h1 h2 h3
        rw [if_neg h1, if_neg h2, if_neg h3] at h'
        exact sg_fit (by omega) (by omega) h'
    · show 33 ≤ (S.gr n).1 ∧ (S.gr n).1 ≤ 65535
      have h' : (S.gr n).2 = true := h
      unfold S.gr at h' ⊢
      split
      · simp only; omega
      split
      · simp only; omega
      split
      · simp only; omega
      · rename_i h1 h2 h3
        rw [if_neg h1, if_neg h2, if_neg h3] at h'
        cases h'

/-- The numbers of East: of each entry of a run. -/
def by3 (n : Int) : Bool := decide (33 ≤ n % 256) && decide (n % 256 ≤ 126) && decide (33 ≤ n / 256 % 256) && decide (n / 256 % 256 ≤ 126) && decide (33 ≤ n / 256 / 256 % 256) && decide (n / 256 / 256 % 256 ≤ 126) && decide (n / 256 / 256 / 256 = 0) && decide (0 ≤ n)
def okE (p : Int × Int) : Bool := by3 p.1 && (E.runeL p.1 == (p.2, true)) && rowsL.any fun z => decide (z + 33 ≤ p.1) && decide (p.1 ≤ z + 126)
theorem okE_all : (List.range 10).all (fun k => (E.tab k).all okE) = true := by kernel_rfl
theorem okE_of {k : Nat} {p : Int × Int} (hk : k < 10) (hp : p ∈ E.tab k) : by3 p.1 = true ∧ E.runeL p.1 = (p.2, true) ∧ ∃ z ∈ rowsL, z + 33 ≤ p.1 ∧ p.1 ≤ z + 126 := by
  have h := List.all_eq_true.1 (List.all_eq_true.1 okE_all k (List.mem_range.2 hk)) _ hp
  unfold okE at h
  simp only [Bool.and_eq_true, List.any_eq_true, decide_eq_true_eq] at h
  exact ⟨h.1.1, eq_of_beq h.1.2, h.2⟩
theorem mem_sel {r n : Int} {l : List (Int × Int)} : n ∈ E.sel r l ↔ (n, r) ∈ l := by
  unfold E.sel
  constructor
  · intro h
    obtain ⟨p, hp, rfl⟩ := List.mem_map.1 h
    obtain ⟨h1, h2⟩ := List.mem_filter.1 hp
    have h3 : p.2 = r := by simpa using h2
    rw [← h3]
    exact h1
  · intro h
    exact List.mem_map.2 ⟨(n, r), List.mem_filter.2 ⟨h, by simp⟩, rfl⟩
theorem mem_codesL {r n : Int} : ∀ {j : Nat}, n ∈ E.codesL r j ↔ ∃ k, k < j ∧ (n, r) ∈ E.tab k
  | 0 => by simp [E.codesL]
  | j + 1 => by
    simp only [E.codesL, List.mem_append, mem_codesL (j := j), mem_sel]
    constructor
    · rintro (⟨k, hk, h⟩ | h)
      · exact ⟨k, by omega, h⟩
      · exact ⟨j, by omega, h⟩
    · rintro ⟨k, hk, h⟩
      by_cases e : k = j
      · subst e; exact .inr h
      · exact .inl ⟨k, by omega, h⟩
theorem mem_row {h n : Int} : n ∈ rowL h ↔ h + 33 ≤ n ∧ n ≤ h + 126 := by
  constructor
  · exact rowL_mem
  · intro hn
    unfold rowL
    exact List.mem_map.2 ⟨(n - h - 33).toNat, List.mem_range.2 (by omega), by omega⟩
theorem mem_every9 {n : Int} : n ∈ everyL 9 ↔ ∃ z ∈ rowsL, z + 33 ≤ n ∧ n ≤ z + 126 := by
  show n ∈ rowsL.flatMap rowL ↔ _
  rw [List.mem_flatMap]
  constructor
  · rintro ⟨z, hz, h⟩; exact ⟨z, hz, mem_row.1 h⟩
  · rintro ⟨z, hz, h⟩; exact ⟨z, hz, mem_row.2 h⟩
theorem every_other {s : Int} (h : s ≠ 9) : everyL s = rowL 0 := if_neg h
theorem struck_not {s r n : Int} : struck s r n = false ↔ (cr s n).2 = true ∧ (cr s n).1 = r := by
  unfold struck
  cases h : (cr s n).2 <;> simp
theorem mem_numsH {s r n : Int} (hs : s ≠ 9) : n ∈ numsH r s ↔ (33 ≤ n ∧ n ≤ 126) ∧ (cr s n).2 = true ∧ (cr s n).1 = r := by
  unfold numsH
  rw [if_neg hs, every_other hs]
  unfold kept
  rw [List.mem_filter, mem_row]
  constructor
  · rintro ⟨h1, h2⟩
    refine ⟨by omega, struck_not.1 ?_⟩
    simpa using h2
  · rintro ⟨h1, h2⟩
    refine ⟨by omega, ?_⟩
    rw [struck_not.2 h2]
    rfl
/-- The codes of a character that having tells are those that every tells. -/
theorem mem_having {r : Int} {c : Cd} : c ∈ forthL (numsH r) 12 ↔ c ∈ forthL everyL 12 ∧ rn c = r := by
  rw [mem_forth, mem_forth]
  obtain ⟨s, n⟩ := c
  show _ ↔ _ ∧ (cr s n).1 = r
  simp only
  by_cases h9 : s = 9
  · subst h9
    have hn : numsH r 9 = E.codesL r 10 := if_pos rfl
    rw [hn, mem_codesL, mem_every9, cr_9]
    constructor
    · rintro ⟨h1, h2, ⟨k, hk, hm⟩, h4⟩
      obtain ⟨_, h5, h6⟩ := okE_of hk hm
      simp only at h5 h6
      exact ⟨⟨h1, h2, h6, h4⟩, by rw [h5]⟩
    · rintro ⟨⟨h1, h2, h3, h4⟩, h5⟩
      obtain ⟨k, hk, hm⟩ := runeL_mem (n := n) (r := (E.runeL n).1) (Prod.ext rfl h4)
      rw [h5] at hm
      exact ⟨h1, h2, ⟨k, hk, hm⟩, h4⟩
  · rw [mem_numsH h9, every_other h9, mem_row]
    constructor
    · rintro ⟨h1, h2, ⟨h3, h4, h5⟩, h6⟩
      exact ⟨⟨h1, h2, by omega, h6⟩, h5⟩
    · rintro ⟨⟨h1, h2, h3, h4⟩, h5⟩
      exact ⟨h1, h2, ⟨by omega, h4, h5⟩, h4⟩
theorem forth_fit {nums : Int → List Int} {c : Cd} (h : c ∈ forthL nums 12) : 33 ≤ rn c ∧ rn c ≤ 65535 := by
  obtain ⟨h1, h2, _, h4⟩ := mem_forth.1 h
  exact cr_fit ⟨h1, by omega⟩ h4

/-- How many bytes, and each of them. -/
def okB (c : Cd) : Prop := (c.1 = 9 → by3 c.2 = true) ∧ (c.1 ≠ 9 → 33 ≤ c.2 ∧ c.2 ≤ 126)
theorem forth_bytes {r : Int} {c : Cd} (h : c ∈ forthL (numsH r) 12) : okB c := by
  obtain ⟨h1, h2, h3, h4⟩ := mem_forth.1 h
  obtain ⟨s, n⟩ := c
  refine ⟨fun e => ?_, fun e => ?_⟩
  · simp only at e
    subst e
    have hn : numsH r 9 = E.codesL r 10 := if_pos rfl
    rw [hn, mem_codesL] at h3
    obtain ⟨k, hk, hm⟩ := h3
    exact (okE_of hk hm).1
  · exact ((mem_numsH e).1 h3).1

/-- No number comes twice. -/
theorem rowL_nodup (h : Int) : (rowL h).Nodup := by
  unfold rowL
  rw [List.nodup_iff_pairwise_ne, List.pairwise_map]
  exact List.nodup_range.imp fun hab e => hab (by omega)
def rise : List Int → Bool
  | a :: b :: l => decide (a < b) && rise (b :: l)
  | _ => true
theorem rise_pw : ∀ {l : List Int}, rise l = true → l.Pairwise (· < ·)
  | [], _ => List.Pairwise.nil
  | [a], _ => List.pairwise_singleton _ _
  | a :: b :: l, h => by
    simp only [rise, Bool.and_eq_true, decide_eq_true_eq] at h
    have ih := rise_pw (l := b :: l) h.2
    refine List.Pairwise.cons (fun x hx => ?_) ih
    rcases List.mem_cons.1 hx with rfl | hx
    · exact h.1
    · exact Int.lt_trans h.1 (List.rel_of_pairwise_cons ih hx)
theorem every9_rise : rise (everyL 9) = true := by kernel_rfl
theorem runs_rise : rise ((List.range 10).flatMap fun k => (E.tab k).map (·.1)) = true := by kernel_rfl
theorem nodup_of_lt {l : List Int} (h : l.Pairwise (· < ·)) : l.Nodup := h.imp fun hab e => by omega
theorem every_nodup (s : Int) : (everyL s).Nodup := by
  by_cases h : s = 9
  · subst h; exact nodup_of_lt (rise_pw every9_rise)
  · rw [every_other h]; exact rowL_nodup 0
theorem codesL_sub (r : Int) : ∀ j : Nat, (E.codesL r j).Sublist ((List.range j).flatMap fun k => (E.tab k).map (·.1))
  | 0 => by simp [E.codesL]
  | j + 1 => by
    rw [List.range_succ, List.flatMap_append]
    simp only [E.codesL, List.flatMap_cons, List.flatMap_nil, List.append_nil]
    exact (codesL_sub r j).append (by unfold E.sel; exact List.filter_sublist.map _)
theorem codesL_nodup (r : Int) : (E.codesL r 10).Nodup := (nodup_of_lt (rise_pw runs_rise)).sublist (codesL_sub r 10)
theorem numsH_ok (r s : Int) : (numsH r s).length ≤ 10000 ∧ (numsH r s).Nodup ∧ ∀ n ∈ numsH r s, 0 ≤ n ∧ n ≤ 16777216 := by
  unfold numsH
  by_cases h : s = 9
  · rw [if_pos h]
    refine ⟨by have := E.codesL_short r 10 (by omega); omega, codesL_nodup r, fun n hn => ?_⟩
    obtain ⟨k, hk, hm⟩ := mem_codesL.1 hn
    have := (okE_of hk hm).1
    unfold by3 at this
    simp only [Bool.and_eq_true, decide_eq_true_eq] at this
    omega
  · rw [if_neg h]
    unfold kept
    refine ⟨Nat.le_trans (List.length_filter_le _ _) (everyL_len s), (every_nodup s).sublist List.filter_sublist, fun n hn => everyL_fit (List.mem_filter.1 hn).1⟩
theorem everyL_ok (s : Int) : (everyL s).length ≤ 10000 ∧ (everyL s).Nodup ∧ ∀ n ∈ everyL s, 0 ≤ n ∧ n ≤ 16777216 := ⟨everyL_len s, every_nodup s, fun n hn => everyL_fit hn⟩

/-- All that have a code. -/
def Known (r : Int) : Prop := ∃ c ∈ forthL everyL 12, rn c = r
theorem known_iff {r : Int} : Known r ↔ ∃ c, c ∈ forthL (numsH r) 12 := by
  constructor
  · rintro ⟨c, h1, h2⟩; exact ⟨c, mem_having.2 ⟨h1, h2⟩⟩
  · rintro ⟨c, h⟩; exact ⟨c, (mem_having.1 h).1, (mem_having.1 h).2⟩
theorem known_fit {r : Int} (h : Known r) : 33 ≤ r ∧ r ≤ 65535 := by
  obtain ⟨c, h1, rfl⟩ := h
  exact forth_fit h1
/-- The example of the chapter. -/
theorem codes_769 : forthL (numsH 769) 12 = [(2, 98), (3, 34)] := by kernel_rfl
end Go.Proofs.YtipigfgnpfhdbaaGreatDoor.G
namespace Go.Proofs.YtipigfgnpfhdbaaGreatDoor.Q
open Go.RowKit U
open Go.Sort (putRow Holds swp ltInt)
set_option linter.unusedVariables false

abbrev E (x : Int) : Value := .int .i32 x
/-- W with d in its row; draws and new blocks apart, nothing else is other. -/
def At (W : World) (blk off : Nat) (d : Array Int) (w : World) : Prop := ∃ (n : Nat) (os : Array Obj), w = Go.Sort.grow (putRow E (Go.Sort.ahead W n) blk off d) os
section
variable {W w : World} {blk off : Nat} {D d : Array Int}
theorem At.start (h : Holds E W blk off D) : At W blk off D W := ⟨0, #[], by rw [Go.Sort.grow_empty]; exact (Go.Sort.putRow_self _ _ _ _ _ h).symm⟩
theorem At.drew (h : At W blk off d w) (q : Nat) : At W blk off d (w.drewN q) := by
  obtain ⟨n, os, rfl⟩ := h
  refine ⟨n + q, os, ?_⟩
  rw [← putRow_drewN]
  rfl
theorem At.drew1 (h : At W blk off d w) : At W blk off d w.drew := h.drew 1
theorem At.alloc (h : At W blk off d w) (o : Obj) : At W blk off d (w.alloc o) := by
  obtain ⟨n, os, rfl⟩ := h
  exact ⟨n, os ++ #[o], by rw [Go.Sort.alloc_eq_grow, Go.Sort.grow_grow]⟩
theorem blk_lt (hH : Holds E W blk off D) {t : Nat} (ht : t < D.size) : blk < W.heap.size := World.block_lt_of_cell? W ⟨blk, off + t, none⟩ (hH t ht).1
theorem At.cell (h : At W blk off d w) (hH : Holds E W blk off D) (hs : d.size = D.size) {t : Nat} (ht : t < D.size) : w.cell? ⟨blk, off + t, none⟩ = some (E d[t]!) := by
  obtain ⟨n, os, rfl⟩ := h
  have hb := blk_lt hH ht
  rw [Go.Sort.cell?_grow _ _ _ (by rw [Go.Sort.size_putRow]; exact hb)]
  exact Go.Sort.cell?_putRow _ _ _ _ D d (Go.Sort.holds_ahead _ _ _ _ _ _ hH) hs t (by omega)
theorem At.free (h : At W blk off d w) (hH : Holds E W blk off D) {t : Nat} (ht : t < D.size) : w.frozen? ⟨blk, off + t, none⟩ = false := by
  obtain ⟨n, os, rfl⟩ := h
  have hb := blk_lt hH ht
  rw [Go.Sort.frozen?_grow _ _ _ (by rw [Go.Sort.size_putRow]; exact hb), Go.Sort.frozen?_putRow]
  exact (Go.Sort.holds_ahead _ _ n _ _ _ hH t ht).2
theorem grow_set {u : World} {os : Array Obj} {i : Nat} (v : Value) (h : blk < u.heap.size) : (Go.Sort.grow u os).setCell ⟨blk, i, none⟩ v = Go.Sort.grow (u.setCell ⟨blk, i, none⟩ v) os := by
  rw [Go.Sort.setCell_eq, Go.Sort.mapBlock_grow _ _ _ _ h, ← Go.Sort.setCell_eq]
theorem size_set {u : World} {i : Nat} (v : Value) : (u.setCell ⟨blk, i, none⟩ v).heap.size = u.heap.size := by
  rw [Go.Sort.setCell_eq]
  simp [Go.Sort.mapBlock]
theorem At.swap (h : At W blk off d w) (hb : blk < W.heap.size) (q : Nat) {j k : Nat} (hj : j < d.size) (hk : k < d.size) : At W blk off (swp d j k) (((w.drewN q).setCell ⟨blk, off + j, none⟩ (E d[k]!)).setCell ⟨blk, off + k, none⟩ (E d[j]!)) := by
  obtain ⟨n, os, rfl⟩ := h
  refine ⟨n + q, os, ?_⟩
  have hb1 : blk < ((putRow E (Go.Sort.ahead W n) blk off d).drewN q).heap.size := by
    show blk < (putRow E (Go.Sort.ahead W n) blk off d).heap.size
    rw [Go.Sort.size_putRow]
    exact hb
  rw [show (Go.Sort.grow (putRow E (Go.Sort.ahead W n) blk off d) os).drewN q = Go.Sort.grow ((putRow E (Go.Sort.ahead W n) blk off d).drewN q) os from rfl, grow_set _ hb1, grow_set _ (by rw [size_set]; exact hb1)]
  congr 1
  exact swap_worldA _ _ _ _ _ _ _ _ _ hj hk
end
theorem meas_i {b i : Nat} (h : i ≤ b) (hw : wrap64 ((i : Int) + 1) = ((i + 1 : Nat) : Int)) : b + 1 - (intOf (.int .i64 (wrap64 ((i : Int) + 1)))).toNat < b + 1 - (intOf (.int .i64 (i : Int))).toNat := by
  rw [hw]
  show b + 1 - (i + 1) < b + 1 - i
  omega
theorem meas_r {b i : Nat} (h : i < b) (hw : wrap64 ((i : Int) + 1) = ((i + 1 : Nat) : Int)) : b - (intOf (.int .i64 (wrap64 ((i : Int) + 1)))).toNat < b - (intOf (.int .i64 (i : Int))).toNat := by
  rw [hw]
  show b - (i + 1) < b - i
  omega
theorem meas_s {b i : Nat} (h : i < b) : b - (intOf (.int .i64 ((i : Int) + 1))).toNat < b - (intOf (.int .i64 (i : Int))).toNat := by
  show b - (i + 1) < b - i
  omega
theorem meas_c {N c r : Nat} {x : Int} (h : r < c) (hc : c ≤ N) (hx : x = (c : Int) := by omega) : N - (intOf (.int .i64 x)).toNat < N - (intOf (.int .i64 (r : Int))).toNat := by
  subst hx
  show N - c < N - r
  omega
theorem nan_is (x : Int) (w : World) : Calls Tryz.prog 116 #[.int .i32 x] w fun e w' => e = .returned (.bool false) ∧ w' = w := by
  go_enter Tryz.func116, Tryz.ntmps116
  go_wp2
  go_ret
  exact ⟨ret_bool (by simp), rfl⟩
set_option maxHeartbeats 2000000 in
theorem less_is (x y : Int) (w : World) : Calls Tryz.prog 79 #[.int .i32 x, .int .i32 y] w fun e w' => e = .returned (.bool (ltInt x y)) ∧ w' = w := by
  have HN := Lib.hid nan_is
  go_enter Tryz.func79, Tryz.ntmps79
  go_wp2_with (go_at_call 116; (with_reducible refine (HN.out _ _).mono ?_); rintro e w1 ⟨rfl, rfl⟩)
  go_ret
  exact ⟨rfl, rfl⟩
end Go.Proofs.YtipigfgnpfhdbaaGreatDoor.Q
namespace Go.Proofs.YtipigfgnpfhdbaaGreatDoor.Q
open Go.RowKit U
open Go.Sort (putRow Holds swp ltInt scanUp scanDown partEqLoop partitionEqual)
set_option linter.unusedVariables false

def ScU (W : World) (blk off i j : Nat) (p : Int → Bool) (dk : Array Int) (S : Nat) (u : Value) (wr : World) : Prop := ∃ i' : Nat, u = .int .i64 i' ∧ i ≤ i' ∧ i' ≤ j + 1 ∧ At W blk off dk wr ∧ scanUp p dk j i' = S
def ScD (W : World) (blk off i j : Nat) (p : Int → Bool) (dk : Array Int) (S : Nat) (u : Value) (wr : World) : Prop := ∃ j' : Nat, u = .int .i64 j' ∧ j' ≤ j ∧ i ≤ j' + 1 ∧ At W blk off dk wr ∧ scanDown p dk i j' = S
def PeO (W : World) (blk off N a b : Nat) (R : Nat × Array Int) (u v : Value) (wr : World) : Prop := ∃ (i j : Nat) (dk : Array Int), u = .int .i64 i ∧ v = .int .i64 j ∧ a < i ∧ i ≤ j + 1 ∧ j < b ∧ dk.size = N ∧ At W blk off dk wr ∧ partEqLoop ltInt a i j dk = R
set_option maxRecDepth 100000 in
set_option maxHeartbeats 2000000 in
theorem parteq_is (blk off cap a b pivot : Nat) (D d : Array Int) (W w : World) (hH : Holds E W blk off D) (hd : d.size = D.size) (hA : At W blk off d w) (hap : a ≤ pivot) (hpb : pivot < b) (hb : b ≤ D.size) (hsz : D.size < 4611686018427387904) :
    Calls Tryz.prog 80 #[.slice (some ⟨blk, off, none⟩) D.size cap, .int .i64 a, .int .i64 b, .int .i64 pivot] w fun e w' => e = .returned (.int .i64 (partitionEqual ltInt d a b pivot).1) ∧ At W blk off (partitionEqual ltInt d a b pivot).2 w' := by
  obtain ⟨R, hR⟩ : ∃ R, partitionEqual ltInt d a b pivot = R := ⟨_, rfl⟩
  rw [hR]
  have hR : partEqLoop ltInt a (a + 1) (b - 1) (swp d a pivot) = R := hR
  have hA1 := (hA.swap (blk_lt hH (t := a) (by omega)) 0 (j := a) (k := pivot) (by omega) (by omega)).drew1
  obtain ⟨G, hG⟩ : ∃ G : Nat → Int, ∀ t, G t = d[t]! := ⟨fun t => d[t]!, fun _ => rfl⟩
  have cell0 : ∀ t, t < D.size → w.cell? ⟨blk, off + t, none⟩ = some (.int .i32 (G t)) := fun t ht => by
    rw [hG]
    exact hA.cell hH hd ht
  rw [show E d[pivot]! = .int .i32 (G pivot) by rw [hG], show E d[a]! = .int .i32 (G a) by rw [hG]] at hA1
  have ca := cell0 a (by omega)
  have cp := cell0 pivot (by omega)
  have fa := hA.free hH (t := a) (by omega)
  have fp := hA.free hH (t := pivot) (by omega)
  obtain ⟨v', hy'⟩ := cell?_setCell_some (w := w) (p := ⟨blk, off + a, none⟩) (x := .int .i32 (G pivot)) (q := ⟨blk, off + pivot, none⟩) cp
  have HR := Lib.hid hR
  have HH := Lib.hid hH
  have HA1 := Lib.hid hA1
  have HD := Lib.hid hd
  have HLs := Lib.hid less_is
  have HB := Lib.hid (And.intro hap (And.intro hpb (And.intro hb hsz)))
  obtain ⟨N, hN⟩ : ∃ N, D.size = N := ⟨_, rfl⟩
  have HN := Lib.hid hN
  have hpN : pivot < N := by omega
  have haN : a < N := by omega
  have p1 : wrap64 ((a : Int) + 1) = ((a + 1 : Nat) : Int) := by unfold wrap64; omega
  have p2 : wrap64 ((b : Int) - 1) = ((b - 1 : Nat) : Int) := by unfold wrap64; omega
  rw [hN]
  clear hR hH hA hA1 hd hap hpb hb hsz hN hG cell0
  go_enter Tryz.func80, Tryz.ntmps80
  go_wp2
  go_region
  go_wp2
  go_loopw [9, 10] (fun u v wr => PeO W blk off N a b R u v wr) (fun u v _ => (intOf v).toNat + 1 - (intOf u).toNat)
  case atStart => exact ⟨a + 1, b - 1, swp d a pivot, by rw [p1], by rw [p2], by omega, by have := HB.out; omega, by have := HB.out; omega, by rw [Go.Sort.size_swp, HD.out]; exact HN.out, HA1.out, HR.out⟩
  case round =>
    obtain ⟨i, j, dk, rfl, rfl, hai, hij, hjb, hs, hAk, hO⟩ := hrel
    have HI := Lib.hid (And.intro hai (And.intro hij (And.intro hjb hs)))
    have HAk := Lib.hid hAk
    have HO := Lib.hid hO
    obtain ⟨G1, hG1⟩ : ∃ G1 : Nat → Int, ∀ t, G1 t = dk[t]! := ⟨fun t => dk[t]!, fun _ => rfl⟩
    have HG := Lib.hid hG1
    clear hai hij hjb hs hAk hO hG1 ca cp fa fp hy' v' p1 p2 HR HA1 hR
    have hfam : ∀ w1, At W blk off dk w1 → ∀ t, t < N → w1.cell? ⟨blk, off + t, none⟩ = some (.int .i32 (G1 t)) := fun w1 h t ht => by
      rw [HG.out]
      exact h.cell HH.out (by rw [HN.out]; exact HI.out.2.2.2) (by rw [HN.out]; exact ht)
    have hfre : ∀ w1, At W blk off dk w1 → ∀ t, t < N → w1.frozen? ⟨blk, off + t, none⟩ = false := fun w1 h t ht => h.free HH.out (by rw [HN.out]; exact ht)
    have HFam := Lib.hid (And.intro hfam hfre)
    clear hfam hfre
    have hjN : j < N := by have := HI.out; have := HB.out; have := HN.out; omega
    have hN2 : N < 4611686018427387904 := by have := HB.out; have := HN.out; omega
    obtain ⟨S, hS⟩ : ∃ S, scanUp (fun x => !ltInt dk[a]! x) dk j i = S := ⟨_, rfl⟩
    have HS := Lib.hid hS
    clear hS
    go_wp2
    go_loopw [9] (fun u w1 => ScU W blk off i j (fun x => !ltInt dk[a]! x) dk S u w1) (fun u _ => j + 1 - (intOf u).toNat)
    case atStart => exact ⟨i, rfl, Nat.le_refl _, HI.out.2.1, HAk.out, HS.out⟩
    case round =>
      obtain ⟨i', rfl, hii, hij', hAi, hsc⟩ := hrel
      have HJ := Lib.hid (And.intro hii hij')
      have HAi := Lib.hid hAi
      have HSc := Lib.hid hsc
      clear hii hAi hsc
      have hcw := HFam.out.1 wr HAi.out
      by_cases hle : i' ≤ j
      · have hi'N : i' < N := by omega
        have HLe := Lib.hid hle
        go_wp2_with fail
        go_quiet (first | (go_at_call 79; refine Calls.quiet_of_same (HLs.out _ _ _)))
        go_wp2
        · have ht : (!ltInt (G1 a) (G1 i')) = true := by assumption
          have hw : wrap64 ((i' : Int) + 1) = ((i' + 1 : Nat) : Int) := by unfold wrap64; omega
          go_roundw
          case rel =>
            refine ⟨i' + 1, by first | rfl | rw [hw], by have := HJ.out; omega, by omega, HAi.out.drew nq, ?_⟩
            rw [← HSc.out, Go.Proofs.scanUp_go (fun x => !ltInt dk[a]! x) dk j i' HLe.out (by rw [← HG.out, ← HG.out]; exact ht)]
          case measure => first | exact meas_r (b := j + 1) (by omega) hw | exact meas_s (b := j + 1) (by omega)
        · have ht : (!ltInt (G1 a) (G1 i')) = false := by assumption
          have hi2 : S = i' := by rw [← HSc.out, Go.Proofs.scanUp_end (fun x => !ltInt dk[a]! x) dk j i' (Or.inr (by rw [← HG.out, ← HG.out]; exact ht))]
          have HI2 := Lib.hid hi2
          have HAd := Lib.hid (HAi.out.drew nq)
          clear ht hi2 hcw
          obtain ⟨T, hT⟩ : ∃ T, scanDown (fun x => ltInt dk[a]! x) dk i' j = T := ⟨_, rfl⟩
          have HT := Lib.hid hT
          clear hT
          go_loopw [10] (fun u w1 => ScD W blk off i' j (fun x => ltInt dk[a]! x) dk T u w1) (fun u _ => (intOf u).toNat)
          case atStart => exact ⟨j, rfl, Nat.le_refl _, hij', HAd.out, HT.out⟩
          case round =>
            obtain ⟨j', rfl, hjj, hij2, hAj, hsd⟩ := hrel
            have HJ2 := Lib.hid (And.intro hjj hij2)
            have HAj := Lib.hid hAj
            have HSd := Lib.hid hsd
            clear hAj hsd
            have hcw := HFam.out.1 wr HAj.out
            have hj'N : j' < N := by omega
            by_cases hle2 : i' ≤ j'
            · have HLe2 := Lib.hid hle2
              go_wp2_with fail
              go_quiet (first | (go_at_call 79; refine Calls.quiet_of_same (HLs.out _ _ _)))
              go_wp2
              · have ht : ltInt (G1 a) (G1 j') = true := by assumption
                have h0 := HI.out
                have h1 := HJ.out
                have hw : wrap64 ((j' : Int) - 1) = ((j' - 1 : Nat) : Int) := by unfold wrap64; omega
                go_roundw
                case rel =>
                  refine ⟨j' - 1, by first | rfl | rw [hw] | (congr 1; omega), by omega, ?_, HAj.out.drew nq, ?_⟩
                  · omega
                  · rw [← HSd.out, Go.Proofs.scanDown_go (fun x => ltInt dk[a]! x) dk i' j' HLe2.out (by omega) (by rw [← HG.out, ← HG.out]; exact ht)]
                case measure => simp [intOf]; omega
              · have ht : ltInt (G1 a) (G1 j') = false := by assumption
                have hj2 : T = j' := by rw [← HSd.out, Go.Proofs.scanDown_end (fun x => ltInt dk[a]! x) dk i' j' (Or.inr (by rw [← HG.out, ← HG.out]; exact ht))]
                have hlt := Go.Proofs.scans_lt ltInt a i j dk (by have := HI.out; omega) (HS.out.trans HI2.out).symm (HT.out.trans hj2).symm HLe2.out
                have hgo := Go.Proofs.partEq_go ltInt a i j dk (HS.out.trans HI2.out).symm (HT.out.trans hj2).symm (by omega)
                have HGo := Lib.hid hgo
                have hA3 := HAj.out.drew nq
                clear ht hj2 hcw hgo
                generalize wr.drewN nq = W3 at hA3 ⊢
                have hc3 := HFam.out.1 W3 hA3
                have hf3 := HFam.out.2 W3 hA3
                have hi'N : i' < N := by omega
                have c1 := hc3 i' hi'N
                have c2 := hc3 j' hj'N
                have f1 := hf3 i' hi'N
                have f2 := hf3 j' hj'N
                have hnj := HI.out.2.2.2
                have hA4 := (hA3.swap (blk_lt HH.out (t := i') (by have := HN.out; omega)) 0 (j := i') (k := j') (by omega) (by omega)).drew1
                rw [← HG.out, ← HG.out] at hA4
                have HA4 := Lib.hid hA4
                clear hA4 hA3 hc3 hf3
                obtain ⟨v3, hy3⟩ := cell?_setCell_some (w := W3) (p := ⟨blk, off + i', none⟩) (x := .int .i32 (G1 j')) (q := ⟨blk, off + j', none⟩) c2
                have h0 := HI.out
                have h1 := HJ.out
                have hw1 : wrap64 ((i' : Int) + 1) = ((i' + 1 : Nat) : Int) := by unfold wrap64; omega
                have hw2 : wrap64 ((j' : Int) - 1) = ((j' - 1 : Nat) : Int) := by unfold wrap64; omega
                have HW := Lib.hid (And.intro hw1 hw2)
                clear hw1 hw2 h0 h1
                go_wp2
                go_region
                all_goals go_wp2
                all_goals go_roundw
                case rel =>
                  have h0 := HI.out
                  have h1 := HJ.out
                  refine ⟨i' + 1, j' - 1, swp dk i' j', by first | rfl | rw [HW.out.1] | (congr 1; omega), by first | rfl | rw [HW.out.2] | (congr 1; omega), by omega, by omega, by omega, by rw [Go.Sort.size_swp]; exact hnj, HA4.out, ?_⟩
                  rw [← HO.out, HGo.out]
                case measure =>
                  have h0 := HI.out
                  have h1 := HJ.out
                  (try rw [HW.out.1, HW.out.2])
                  simp [intOf]
                  omega
            · have HLe2 := Lib.hid hle2
              go_wp2_with fail
              go_quiet (first | (go_at_call 79; refine Calls.quiet_of_same (HLs.out _ _ _)))
              have hj2 : T = j' := by rw [← HSd.out, Go.Proofs.scanDown_end (fun x => ltInt dk[a]! x) dk i' j' (Or.inl HLe2.out)]
              have hbr := Go.Proofs.partEq_break ltInt a i j dk (HS.out.trans HI2.out).symm (HT.out.trans hj2).symm (by omega)
              have hr : R = (i', dk) := by rw [← HO.out, hbr]
              have Hr := Lib.hid hr
              have HAf := Lib.hid (HAj.out.drew nq)
              clear hj2 hbr hr hcw
              go_wp2
              go_ret
              rw [Hr.out]
              exact ⟨rfl, HAf.out⟩
      · have HLe := Lib.hid hle
        go_wp2_with fail
        go_quiet (first | (go_at_call 79; refine Calls.quiet_of_same (HLs.out _ _ _)))
        have hi2 : S = i' := by rw [← HSc.out, Go.Proofs.scanUp_end (fun x => !ltInt dk[a]! x) dk j i' (Or.inl HLe.out)]
        have HI2 := Lib.hid hi2
        have HAd := Lib.hid (HAi.out.drew nq)
        clear hi2 hcw
        go_wp2
        obtain ⟨T, hT⟩ : ∃ T, scanDown (fun x => ltInt dk[a]! x) dk i' j = T := ⟨_, rfl⟩
        have HT := Lib.hid hT
        clear hT
        go_loopw [10] (fun u w1 => ScD W blk off i' j (fun x => ltInt dk[a]! x) dk T u w1) (fun u _ => (intOf u).toNat)
        case atStart => exact ⟨j, rfl, Nat.le_refl _, hij', HAd.out, HT.out⟩
        case round =>
          obtain ⟨j', rfl, hjj, hij2, hAj, hsd⟩ := hrel
          have HJ2 := Lib.hid (And.intro hjj hij2)
          have HAj := Lib.hid hAj
          have HSd := Lib.hid hsd
          clear hAj hsd
          have hcw := HFam.out.1 wr HAj.out
          have hj'N : j' < N := by omega
          by_cases hle2 : i' ≤ j'
          · exact absurd hle2 (by omega)
          · have HLe2 := Lib.hid hle2
            go_wp2_with fail
            go_quiet (first | (go_at_call 79; refine Calls.quiet_of_same (HLs.out _ _ _)))
            have hj2 : T = j' := by rw [← HSd.out, Go.Proofs.scanDown_end (fun x => ltInt dk[a]! x) dk i' j' (Or.inl HLe2.out)]
            have hbr := Go.Proofs.partEq_break ltInt a i j dk (HS.out.trans HI2.out).symm (HT.out.trans hj2).symm (by omega)
            have hr : R = (i', dk) := by rw [← HO.out, hbr]
            have Hr := Lib.hid hr
            have HAf := Lib.hid (HAj.out.drew nq)
            clear hj2 hbr hr hcw
            go_wp2
            go_ret
            rw [Hr.out]
            exact ⟨rfl, HAf.out⟩
end Go.Proofs.YtipigfgnpfhdbaaGreatDoor.Q
namespace Go.Proofs.YtipigfgnpfhdbaaGreatDoor.Q
open Go.RowKit U
open Go.Sort (putRow Holds swp ltInt scanUp scanDown partLoop partition)
set_option linter.unusedVariables false

theorem inc64 {n N : Nat} (h : n < N) (h2 : N < 4611686018427387904) : wrap64 ((n : Int) + 1) = ((n + 1 : Nat) : Int) := by unfold wrap64; omega
theorem dec64 {n N : Nat} (h0 : 1 ≤ n) (h : n < N) (h2 : N < 4611686018427387904) : wrap64 ((n : Int) - 1) = ((n - 1 : Nat) : Int) := by unfold wrap64; omega
theorem one_le {x y z : Nat} (h : x < y) (h2 : y ≤ z) : 1 ≤ z := by omega
theorem dn_meas {j i : Nat} {x y : Int} (hj : 1 ≤ j) (hx : x = ((i + 1 : Nat) : Int)) (hy : y = ((j - 1 : Nat) : Int)) {i0 j0 : Nat} (h1 : i0 ≤ i) (h2 : j ≤ j0) (h3 : i ≤ j) : (intOf (.int .i64 y)).toNat + 1 - (intOf (.int .i64 x)).toNat < (intOf (.int .i64 (j0 : Int))).toNat + 1 - (intOf (.int .i64 (i0 : Int))).toNat := by
  subst hx; subst hy
  show (j - 1) + 1 - (i + 1) < j0 + 1 - i0
  omega
def PaO (W : World) (blk off N a b : Nat) (R : Nat × Array Int) (u v : Value) (wr : World) : Prop := ∃ (i j : Nat) (dk : Array Int), u = .int .i64 i ∧ v = .int .i64 j ∧ a < i ∧ i ≤ j + 1 ∧ j < b ∧ dk.size = N ∧ At W blk off dk wr ∧ partLoop ltInt a i j dk = R
set_option maxRecDepth 100000 in
set_option maxHeartbeats 4000000 in
theorem part_is (blk off cap a b pivot : Nat) (D d : Array Int) (W w : World) (hH : Holds E W blk off D) (hd : d.size = D.size) (hA : At W blk off d w) (hap : a ≤ pivot) (hpb : pivot < b) (hb : b ≤ D.size) (hsz : D.size < 4611686018427387904) :
    Calls Tryz.prog 81 #[.slice (some ⟨blk, off, none⟩) D.size cap, .int .i64 a, .int .i64 b, .int .i64 pivot] w fun e w' => e = .returned (.tuple #[.int .i64 (partition ltInt d a b pivot).1, .bool (partition ltInt d a b pivot).2.1]) ∧ At W blk off (partition ltInt d a b pivot).2.2 w' := by
  obtain ⟨R, hR⟩ : ∃ R, partition ltInt d a b pivot = R := ⟨_, rfl⟩
  rw [hR]
  have hA1 := (hA.swap (blk_lt hH (t := a) (by omega)) 0 (j := a) (k := pivot) (by omega) (by omega)).drew1
  obtain ⟨G, hG⟩ : ∃ G : Nat → Int, ∀ t, G t = d[t]! := ⟨fun t => d[t]!, fun _ => rfl⟩
  have cell0 : ∀ t, t < D.size → w.cell? ⟨blk, off + t, none⟩ = some (.int .i32 (G t)) := fun t ht => by
    rw [hG]
    exact hA.cell hH hd ht
  rw [show E d[pivot]! = .int .i32 (G pivot) by rw [hG], show E d[a]! = .int .i32 (G a) by rw [hG]] at hA1
  have ca := cell0 a (by omega)
  have cp := cell0 pivot (by omega)
  have fa := hA.free hH (t := a) (by omega)
  have fp := hA.free hH (t := pivot) (by omega)
  obtain ⟨v', hy'⟩ := cell?_setCell_some (w := w) (p := ⟨blk, off + a, none⟩) (x := .int .i32 (G pivot)) (q := ⟨blk, off + pivot, none⟩) cp
  obtain ⟨i, hi⟩ : ∃ i, i = a + 1 := ⟨_, rfl⟩
  obtain ⟨j, hj⟩ : ∃ j, j = b - 1 := ⟨_, rfl⟩
  obtain ⟨dk, hdk⟩ : ∃ dk, dk = swp d a pivot := ⟨_, rfl⟩
  have hks : dk.size = D.size := by rw [hdk, Go.Sort.size_swp, hd]
  have HO := Lib.hid (And.intro hR (And.intro hi (And.intro hj hdk)))
  rw [← hdk] at hA1
  have HH := Lib.hid hH
  have HA1 := Lib.hid hA1
  have HLs := Lib.hid less_is
  have HB := Lib.hid (And.intro hap (And.intro hpb (And.intro hb hsz)))
  have p1 : wrap64 ((a : Int) + 1) = (i : Int) := by unfold wrap64; omega
  have p2 : wrap64 ((b : Int) - 1) = (j : Int) := by unfold wrap64; omega
  obtain ⟨N, hN⟩ : ∃ N, D.size = N := ⟨_, rfl⟩
  have HN := Lib.hid hN
  have HI := Lib.hid (show a < i ∧ i ≤ j + 1 ∧ j < b ∧ dk.size = N from ⟨by omega, by omega, by omega, by omega⟩)
  have hpN : pivot < N := by omega
  have haN : a < N := by omega
  rw [hN]
  clear hR hH hA hA1 hd hap hpb hb hsz hN hG cell0 hi hj hdk hks
  go_enter Tryz.func81, Tryz.ntmps81
  go_wp2
  go_region
  go_wp2
  simp only [p1, p2]
  clear p1 p2 ca cp fa fp hy' v'
  have HAk := Lib.hid HA1.out
  clear HA1
  obtain ⟨G1, hG1⟩ : ∃ G1 : Nat → Int, ∀ t, G1 t = dk[t]! := ⟨fun t => dk[t]!, fun _ => rfl⟩
  have HG := Lib.hid hG1
  clear hG1
  have hfam : ∀ w1, At W blk off dk w1 → ∀ t, t < N → w1.cell? ⟨blk, off + t, none⟩ = some (.int .i32 (G1 t)) := fun w1 h t ht => by
    rw [HG.out]
    exact h.cell HH.out (by rw [HN.out]; exact HI.out.2.2.2) (by rw [HN.out]; exact ht)
  have hfre : ∀ w1, At W blk off dk w1 → ∀ t, t < N → w1.frozen? ⟨blk, off + t, none⟩ = false := fun w1 h t ht => h.free HH.out (by rw [HN.out]; exact ht)
  have HFam := Lib.hid (And.intro hfam hfre)
  clear hfam hfre
  have hjN : j < N := by have := HI.out; have := HB.out; have := HN.out; omega
  have hN2 : N < 4611686018427387904 := by have := HB.out; have := HN.out; omega
  obtain ⟨S, hS⟩ : ∃ S, scanUp (fun x => ltInt x dk[a]!) dk j i = S := ⟨_, rfl⟩
  have HS := Lib.hid hS
  clear hS
  go_loopw [10] (fun u w1 => ScU W blk off i j (fun x => ltInt x dk[a]!) dk S u w1) (fun u _ => j + 1 - (intOf u).toNat)
  case atStart => exact ⟨i, rfl, Nat.le_refl _, HI.out.2.1, HAk.out, HS.out⟩
  case round =>
    obtain ⟨i', rfl, hii, hij', hAi, hsc⟩ := hrel
    have HJ := Lib.hid (And.intro hii hij')
    have HAi := Lib.hid hAi
    have HSc := Lib.hid hsc
    clear hii hAi hsc
    have hcw := HFam.out.1 wr HAi.out
    by_cases hle : i' ≤ j
    · have hi'N : i' < N := by omega
      have HLe := Lib.hid hle
      go_wp2_with fail
      go_quiet (first | (go_at_call 79; refine Calls.quiet_of_same (HLs.out _ _ _)))
      go_wp2
      · have ht : ltInt (G1 i') (G1 a) = true := by assumption
        have hw := inc64 hi'N hN2
        go_roundw
        case rel =>
          refine ⟨i' + 1, by first | rfl | rw [hw], by have := HJ.out; omega, by omega, HAi.out.drew nq, ?_⟩
          rw [← HSc.out, Go.Proofs.scanUp_go (fun x => ltInt x dk[a]!) dk j i' HLe.out (by rw [← HG.out, ← HG.out]; exact ht)]
        case measure => first | exact meas_r (b := j + 1) (by omega) hw | exact meas_s (b := j + 1) (by omega)
      · have ht : ltInt (G1 i') (G1 a) = false := by assumption
        have hi2 : S = i' := by rw [← HSc.out, Go.Proofs.scanUp_end (fun x => ltInt x dk[a]!) dk j i' (Or.inr (by rw [← HG.out, ← HG.out]; exact ht))]
        have HI2 := Lib.hid hi2
        have HAd := Lib.hid (HAi.out.drew nq)
        clear ht hi2 hcw
        obtain ⟨T, hT⟩ : ∃ T, scanDown (fun x => !ltInt x dk[a]!) dk i' j = T := ⟨_, rfl⟩
        have HT := Lib.hid hT
        clear hT
        go_loopw [11] (fun u w1 => ScD W blk off i' j (fun x => !ltInt x dk[a]!) dk T u w1) (fun u _ => (intOf u).toNat)
        case atStart => exact ⟨j, rfl, Nat.le_refl _, hij', HAd.out, HT.out⟩
        case round =>
          obtain ⟨j', rfl, hjj, hij2, hAj, hsd⟩ := hrel
          have HJ2 := Lib.hid (And.intro hjj hij2)
          have HAj := Lib.hid hAj
          have HSd := Lib.hid hsd
          clear hAj hsd
          have hcw := HFam.out.1 wr HAj.out
          have hj'N : j' < N := by omega
          by_cases hle2 : i' ≤ j'
          · have HLe2 := Lib.hid hle2
            go_wp2_with fail
            go_quiet (first | (go_at_call 79; refine Calls.quiet_of_same (HLs.out _ _ _)))
            go_wp2
            · have ht : (!ltInt (G1 j') (G1 a)) = true := by assumption
              have h0 := HI.out
              have h1 := HJ.out
              have hw := dec64 (Nat.le_trans (one_le h0.1 h1.1) HLe2.out) hj'N hN2
              go_roundw
              case rel =>
                refine ⟨j' - 1, by first | rfl | rw [hw] | (congr 1; omega), by omega, ?_, HAj.out.drew nq, ?_⟩
                · omega
                · rw [← HSd.out, Go.Proofs.scanDown_go (fun x => !ltInt x dk[a]!) dk i' j' HLe2.out (by omega) (by rw [← HG.out, ← HG.out]; exact ht)]
              case measure => simp [intOf]; omega
            · have ht : (!ltInt (G1 j') (G1 a)) = false := by assumption
              have hj2 : T = j' := by rw [← HSd.out, Go.Proofs.scanDown_end (fun x => !ltInt x dk[a]!) dk i' j' (Or.inr (by rw [← HG.out, ← HG.out]; exact ht))]
              have hlt := Go.Proofs.part_scans_lt ltInt a i j dk (by have := HI.out; omega) (HS.out.trans HI2.out).symm (HT.out.trans hj2).symm HLe2.out
              have hgo := HO.out.1.symm.trans (Go.Proofs.part_first_go ltInt d a b pivot HO.out.2.1 HO.out.2.2.1 HO.out.2.2.2 (HS.out.trans HI2.out).symm (HT.out.trans hj2).symm (by omega))
              have HGo := Lib.hid hgo
              have hA3 := HAj.out.drew nq
              clear ht hj2 hcw hgo
              generalize wr.drewN nq = W3 at hA3 ⊢
              have hi'N : i' < N := by omega
              have c1 := HFam.out.1 W3 hA3 i' hi'N
              have c2 := HFam.out.1 W3 hA3 j' hj'N
              have f1 := HFam.out.2 W3 hA3 i' hi'N
              have f2 := HFam.out.2 W3 hA3 j' hj'N
              have hnj := HI.out.2.2.2
              have hA4 := (hA3.swap (blk_lt HH.out (t := i') (by have := HN.out; omega)) 0 (j := i') (k := j') (by omega) (by omega)).drew1
              rw [← HG.out, ← HG.out] at hA4
              have HA4 := Lib.hid hA4
              clear hA4 hA3
              obtain ⟨v3, hy3⟩ := cell?_setCell_some (w := W3) (p := ⟨blk, off + i', none⟩) (x := .int .i32 (G1 j')) (q := ⟨blk, off + j', none⟩) c2
              have h0 := HI.out
              have h1 := HJ.out
              have hw1 := inc64 hi'N hN2
              have hw2 := dec64 (Nat.le_trans (Nat.succ_le_succ (Nat.zero_le i')) hlt) hj'N hN2
              have HW := Lib.hid (And.intro hw1 hw2)
              clear hw1 hw2 h0 h1
              go_wp2
              go_region
              all_goals go_wp2
              obtain ⟨Q, hQ⟩ : ∃ Q, partLoop ltInt a (i' + 1) (j' - 1) (swp dk i' j') = Q := ⟨_, rfl⟩
              have hRQ : R = (Q.1, false, swp Q.2 Q.1 a) := by rw [HGo.out, hQ]
              have HRQ := Lib.hid hRQ
              have HQ := Lib.hid hQ
              clear hRQ hQ
              go_loopw [10, 11] (fun u v wr => PaO W blk off N a b Q u v wr) (fun u v _ => (intOf v).toNat + 1 - (intOf u).toNat)
              case atStart =>
                have h0 := HI.out
                have h1 := HJ.out
                exact ⟨i' + 1, j' - 1, swp dk i' j', by first | rfl | rw [HW.out.1] | (congr 1; omega), by first | rfl | rw [HW.out.2] | (congr 1; omega), by omega, by omega, by omega, by rw [Go.Sort.size_swp]; exact hnj, HA4.out, HQ.out⟩
              case round =>
                clear HO HI HAk HFam HG HS HI2 HT HJ HJ2 HAd HAi HAj HSc HSd HGo HA4 HW HLe HLe2 hlt hjj hij2 hij' hle2 hle c1 c2 f1 f2 hy3 HQ hj'N hjN hN2 hi'N hnj
                obtain ⟨i, j, dk, rfl, rfl, hai, hij, hjb, hs, hAk, hO⟩ := hrel
                have HI := Lib.hid (And.intro hai (And.intro hij (And.intro hjb hs)))
                have HAk := Lib.hid hAk
                have HO := Lib.hid hO
                clear hai hij hjb hs hAk hO
                obtain ⟨G1, hG1⟩ : ∃ G1 : Nat → Int, ∀ t, G1 t = dk[t]! := ⟨fun t => dk[t]!, fun _ => rfl⟩
                have HG := Lib.hid hG1
                clear hG1
                have hfam : ∀ w1, At W blk off dk w1 → ∀ t, t < N → w1.cell? ⟨blk, off + t, none⟩ = some (.int .i32 (G1 t)) := fun w1 h t ht => by
                  rw [HG.out]
                  exact h.cell HH.out (by rw [HN.out]; exact HI.out.2.2.2) (by rw [HN.out]; exact ht)
                have hfre : ∀ w1, At W blk off dk w1 → ∀ t, t < N → w1.frozen? ⟨blk, off + t, none⟩ = false := fun w1 h t ht => h.free HH.out (by rw [HN.out]; exact ht)
                have HFam := Lib.hid (And.intro hfam hfre)
                clear hfam hfre
                have hjN : j < N := by have := HI.out; have := HB.out; have := HN.out; omega
                have hN2 : N < 4611686018427387904 := by have := HB.out; have := HN.out; omega
                obtain ⟨S, hS⟩ : ∃ S, scanUp (fun x => ltInt x dk[a]!) dk j i = S := ⟨_, rfl⟩
                have HS := Lib.hid hS
                clear hS
                go_wp2
                go_loopw [10] (fun u w1 => ScU W blk off i j (fun x => ltInt x dk[a]!) dk S u w1) (fun u _ => j + 1 - (intOf u).toNat)
                case atStart => exact ⟨i, rfl, Nat.le_refl _, HI.out.2.1, HAk.out, HS.out⟩
                case round =>
                  obtain ⟨i', rfl, hii, hij', hAi, hsc⟩ := hrel
                  have HJ := Lib.hid (And.intro hii hij')
                  have HAi := Lib.hid hAi
                  have HSc := Lib.hid hsc
                  clear hii hAi hsc
                  have hcw := HFam.out.1 wr HAi.out
                  by_cases hle : i' ≤ j
                  · have hi'N : i' < N := by omega
                    have HLe := Lib.hid hle
                    go_wp2_with fail
                    go_quiet (first | (go_at_call 79; refine Calls.quiet_of_same (HLs.out _ _ _)))
                    go_wp2
                    · have ht : ltInt (G1 i') (G1 a) = true := by assumption
                      have hw := inc64 hi'N hN2
                      go_roundw
                      case rel =>
                        refine ⟨i' + 1, by first | rfl | rw [hw], by have := HJ.out; omega, by omega, HAi.out.drew nq, ?_⟩
                        rw [← HSc.out, Go.Proofs.scanUp_go (fun x => ltInt x dk[a]!) dk j i' HLe.out (by rw [← HG.out, ← HG.out]; exact ht)]
                      case measure => first | exact meas_r (b := j + 1) (by omega) hw | exact meas_s (b := j + 1) (by omega)
                    · have ht : ltInt (G1 i') (G1 a) = false := by assumption
                      have hi2 : S = i' := by rw [← HSc.out, Go.Proofs.scanUp_end (fun x => ltInt x dk[a]!) dk j i' (Or.inr (by rw [← HG.out, ← HG.out]; exact ht))]
                      have HI2 := Lib.hid hi2
                      have HAd := Lib.hid (HAi.out.drew nq)
                      clear ht hi2 hcw
                      obtain ⟨T, hT⟩ : ∃ T, scanDown (fun x => !ltInt x dk[a]!) dk i' j = T := ⟨_, rfl⟩
                      have HT := Lib.hid hT
                      clear hT
                      go_loopw [11] (fun u w1 => ScD W blk off i' j (fun x => !ltInt x dk[a]!) dk T u w1) (fun u _ => (intOf u).toNat)
                      case atStart => exact ⟨j, rfl, Nat.le_refl _, hij', HAd.out, HT.out⟩
                      case round =>
                        obtain ⟨j', rfl, hjj, hij2, hAj, hsd⟩ := hrel
                        have HJ2 := Lib.hid (And.intro hjj hij2)
                        have HAj := Lib.hid hAj
                        have HSd := Lib.hid hsd
                        clear hAj hsd
                        have hcw := HFam.out.1 wr HAj.out
                        have hj'N : j' < N := by omega
                        by_cases hle2 : i' ≤ j'
                        · have HLe2 := Lib.hid hle2
                          go_wp2_with fail
                          go_quiet (first | (go_at_call 79; refine Calls.quiet_of_same (HLs.out _ _ _)))
                          go_wp2
                          · have ht : (!ltInt (G1 j') (G1 a)) = true := by assumption
                            have h0 := HI.out
                            have h1 := HJ.out
                            have hw := dec64 (Nat.le_trans (one_le h0.1 h1.1) HLe2.out) hj'N hN2
                            go_roundw
                            case rel =>
                              refine ⟨j' - 1, by first | rfl | rw [hw] | (congr 1; omega), by omega, ?_, HAj.out.drew nq, ?_⟩
                              · omega
                              · rw [← HSd.out, Go.Proofs.scanDown_go (fun x => !ltInt x dk[a]!) dk i' j' HLe2.out (by omega) (by rw [← HG.out, ← HG.out]; exact ht)]
                            case measure => simp [intOf]; omega
                          · have ht : (!ltInt (G1 j') (G1 a)) = false := by assumption
                            have hj2 : T = j' := by rw [← HSd.out, Go.Proofs.scanDown_end (fun x => !ltInt x dk[a]!) dk i' j' (Or.inr (by rw [← HG.out, ← HG.out]; exact ht))]
                            have hlt := Go.Proofs.part_scans_lt ltInt a i j dk (by have := HI.out; omega) (HS.out.trans HI2.out).symm (HT.out.trans hj2).symm HLe2.out
                            have hgo := Go.Proofs.part_go ltInt a i j dk (HS.out.trans HI2.out).symm (HT.out.trans hj2).symm (by omega)
                            have HGo := Lib.hid hgo
                            have hA3 := HAj.out.drew nq
                            clear ht hj2 hcw hgo
                            generalize wr.drewN nq = W3 at hA3 ⊢
                            have hi'N : i' < N := by omega
                            have c1 := HFam.out.1 W3 hA3 i' hi'N
                            have c2 := HFam.out.1 W3 hA3 j' hj'N
                            have f1 := HFam.out.2 W3 hA3 i' hi'N
                            have f2 := HFam.out.2 W3 hA3 j' hj'N
                            have hnj := HI.out.2.2.2
                            have hA4 := (hA3.swap (blk_lt HH.out (t := i') (by have := HN.out; omega)) 0 (j := i') (k := j') (by omega) (by omega)).drew1
                            rw [← HG.out, ← HG.out] at hA4
                            have HA4 := Lib.hid hA4
                            clear hA4 hA3
                            obtain ⟨v3, hy3⟩ := cell?_setCell_some (w := W3) (p := ⟨blk, off + i', none⟩) (x := .int .i32 (G1 j')) (q := ⟨blk, off + j', none⟩) c2
                            have h0 := HI.out
                            have h1 := HJ.out
                            have hw1 := inc64 hi'N hN2
                            have hw2 := dec64 (Nat.le_trans (Nat.succ_le_succ (Nat.zero_le i')) hlt) hj'N hN2
                            have HW := Lib.hid (And.intro hw1 hw2)
                            clear hw1 hw2 h0 h1
                            go_wp2
                            go_region
                            all_goals go_wp2
                            all_goals go_roundw
                            case rel =>
                              have h0 := HI.out
                              have h1 := HJ.out
                              refine ⟨i' + 1, j' - 1, swp dk i' j', by first | rfl | rw [HW.out.1] | (congr 1; omega), by first | rfl | rw [HW.out.2] | (congr 1; omega), by omega, by omega, by omega, by rw [Go.Sort.size_swp]; exact hnj, HA4.out, ?_⟩
                              rw [← HO.out, HGo.out]
                            case measure =>
                              have h0 := HI.out
                              have h1 := HJ.out
                              (try rw [HW.out.1, HW.out.2])
                              simp [intOf]
                              omega
                        · have HLe2 := Lib.hid hle2
                          go_wp2_with fail
                          go_quiet (first | (go_at_call 79; refine Calls.quiet_of_same (HLs.out _ _ _)))
                          have hj2 : T = j' := by rw [← HSd.out, Go.Proofs.scanDown_end (fun x => !ltInt x dk[a]!) dk i' j' (Or.inl HLe2.out)]
                          have hr : R = (j', false, swp dk j' a) := by rw [HRQ.out, ← HO.out, Go.Proofs.part_break ltInt a i j dk (HS.out.trans HI2.out).symm (HT.out.trans hj2).symm (by omega)]
                          have Hr := Lib.hid hr
                          have hA3 := HAj.out.drew nq
                          clear hj2 hr hcw
                          generalize wr.drewN nq = W3 at hA3 ⊢
                          have hnj := HI.out.2.2.2
                          have c1 := HFam.out.1 W3 hA3 j' hj'N
                          have c2 := HFam.out.1 W3 hA3 a haN
                          have f1 := HFam.out.2 W3 hA3 j' hj'N
                          have f2 := HFam.out.2 W3 hA3 a haN
                          have hA4 := (hA3.swap (blk_lt HH.out (t := a) (by have := HN.out; omega)) 0 (j := j') (k := a) (by omega) (by omega)).drew1
                          rw [← HG.out, ← HG.out] at hA4
                          have HA4 := Lib.hid hA4
                          clear hA4 hA3
                          obtain ⟨v3, hy3⟩ := cell?_setCell_some (w := W3) (p := ⟨blk, off + j', none⟩) (x := .int .i32 (G1 a)) (q := ⟨blk, off + a, none⟩) c2
                          go_wp2
                          go_region
                          all_goals go_wp2
                          all_goals go_ret2
                          all_goals rw [Hr.out]
                          all_goals exact ⟨rfl, HA4.out⟩
                  · have HLe := Lib.hid hle
                    go_wp2_with fail
                    go_quiet (first | (go_at_call 79; refine Calls.quiet_of_same (HLs.out _ _ _)))
                    have hi2 : S = i' := by rw [← HSc.out, Go.Proofs.scanUp_end (fun x => ltInt x dk[a]!) dk j i' (Or.inl HLe.out)]
                    have HI2 := Lib.hid hi2
                    have HAd := Lib.hid (HAi.out.drew nq)
                    clear hi2 hcw
                    go_wp2
                    obtain ⟨T, hT⟩ : ∃ T, scanDown (fun x => !ltInt x dk[a]!) dk i' j = T := ⟨_, rfl⟩
                    have HT := Lib.hid hT
                    clear hT
                    go_loopw [11] (fun u w1 => ScD W blk off i' j (fun x => !ltInt x dk[a]!) dk T u w1) (fun u _ => (intOf u).toNat)
                    case atStart => exact ⟨j, rfl, Nat.le_refl _, hij', HAd.out, HT.out⟩
                    case round =>
                      obtain ⟨j', rfl, hjj, hij2, hAj, hsd⟩ := hrel
                      have HJ2 := Lib.hid (And.intro hjj hij2)
                      have HAj := Lib.hid hAj
                      have HSd := Lib.hid hsd
                      clear hAj hsd
                      have hcw := HFam.out.1 wr HAj.out
                      have hj'N : j' < N := by omega
                      by_cases hle2 : i' ≤ j'
                      · exact absurd hle2 (by omega)
                      · have HLe2 := Lib.hid hle2
                        go_wp2_with fail
                        go_quiet (first | (go_at_call 79; refine Calls.quiet_of_same (HLs.out _ _ _)))
                        have hj2 : T = j' := by rw [← HSd.out, Go.Proofs.scanDown_end (fun x => !ltInt x dk[a]!) dk i' j' (Or.inl HLe2.out)]
                        have hr : R = (j', false, swp dk j' a) := by rw [HRQ.out, ← HO.out, Go.Proofs.part_break ltInt a i j dk (HS.out.trans HI2.out).symm (HT.out.trans hj2).symm (by omega)]
                        have Hr := Lib.hid hr
                        have hA3 := HAj.out.drew nq
                        clear hj2 hr hcw
                        generalize wr.drewN nq = W3 at hA3 ⊢
                        have hnj := HI.out.2.2.2
                        have c1 := HFam.out.1 W3 hA3 j' hj'N
                        have c2 := HFam.out.1 W3 hA3 a haN
                        have f1 := HFam.out.2 W3 hA3 j' hj'N
                        have f2 := HFam.out.2 W3 hA3 a haN
                        have hA4 := (hA3.swap (blk_lt HH.out (t := a) (by have := HN.out; omega)) 0 (j := j') (k := a) (by omega) (by omega)).drew1
                        rw [← HG.out, ← HG.out] at hA4
                        have HA4 := Lib.hid hA4
                        clear hA4 hA3
                        obtain ⟨v3, hy3⟩ := cell?_setCell_some (w := W3) (p := ⟨blk, off + j', none⟩) (x := .int .i32 (G1 a)) (q := ⟨blk, off + a, none⟩) c2
                        go_wp2
                        go_region
                        all_goals go_wp2
                        all_goals go_ret2
                        all_goals rw [Hr.out]
                        all_goals exact ⟨rfl, HA4.out⟩
          · have HLe2 := Lib.hid hle2
            go_wp2_with fail
            go_quiet (first | (go_at_call 79; refine Calls.quiet_of_same (HLs.out _ _ _)))
            have hj2 : T = j' := by rw [← HSd.out, Go.Proofs.scanDown_end (fun x => !ltInt x dk[a]!) dk i' j' (Or.inl HLe2.out)]
            have hr : R = (j', true, swp dk j' a) := by rw [← HO.out.1, Go.Proofs.part_first_break ltInt d a b pivot HO.out.2.1 HO.out.2.2.1 HO.out.2.2.2 (HS.out.trans HI2.out).symm (HT.out.trans hj2).symm (by omega)]
            have Hr := Lib.hid hr
            have hA3 := HAj.out.drew nq
            clear hj2 hr hcw
            generalize wr.drewN nq = W3 at hA3 ⊢
            have hnj := HI.out.2.2.2
            have c1 := HFam.out.1 W3 hA3 j' hj'N
            have c2 := HFam.out.1 W3 hA3 a haN
            have f1 := HFam.out.2 W3 hA3 j' hj'N
            have f2 := HFam.out.2 W3 hA3 a haN
            have hA4 := (hA3.swap (blk_lt HH.out (t := a) (by have := HN.out; omega)) 0 (j := j') (k := a) (by omega) (by omega)).drew1
            rw [← HG.out, ← HG.out] at hA4
            have HA4 := Lib.hid hA4
            clear hA4 hA3
            obtain ⟨v3, hy3⟩ := cell?_setCell_some (w := W3) (p := ⟨blk, off + j', none⟩) (x := .int .i32 (G1 a)) (q := ⟨blk, off + a, none⟩) c2
            go_wp2
            go_region
            all_goals go_wp2
            all_goals go_ret2
            all_goals rw [Hr.out]
            all_goals exact ⟨rfl, HA4.out⟩
    · have HLe := Lib.hid hle
      go_wp2_with fail
      go_quiet (first | (go_at_call 79; refine Calls.quiet_of_same (HLs.out _ _ _)))
      have hi2 : S = i' := by rw [← HSc.out, Go.Proofs.scanUp_end (fun x => ltInt x dk[a]!) dk j i' (Or.inl HLe.out)]
      have HI2 := Lib.hid hi2
      have HAd := Lib.hid (HAi.out.drew nq)
      clear hi2 hcw
      go_wp2
      obtain ⟨T, hT⟩ : ∃ T, scanDown (fun x => !ltInt x dk[a]!) dk i' j = T := ⟨_, rfl⟩
      have HT := Lib.hid hT
      clear hT
      go_loopw [11] (fun u w1 => ScD W blk off i' j (fun x => !ltInt x dk[a]!) dk T u w1) (fun u _ => (intOf u).toNat)
      case atStart => exact ⟨j, rfl, Nat.le_refl _, hij', HAd.out, HT.out⟩
      case round =>
        obtain ⟨j', rfl, hjj, hij2, hAj, hsd⟩ := hrel
        have HJ2 := Lib.hid (And.intro hjj hij2)
        have HAj := Lib.hid hAj
        have HSd := Lib.hid hsd
        clear hAj hsd
        have hcw := HFam.out.1 wr HAj.out
        have hj'N : j' < N := by omega
        by_cases hle2 : i' ≤ j'
        · exact absurd hle2 (by omega)
        · have HLe2 := Lib.hid hle2
          go_wp2_with fail
          go_quiet (first | (go_at_call 79; refine Calls.quiet_of_same (HLs.out _ _ _)))
          have hj2 : T = j' := by rw [← HSd.out, Go.Proofs.scanDown_end (fun x => !ltInt x dk[a]!) dk i' j' (Or.inl HLe2.out)]
          have hr : R = (j', true, swp dk j' a) := by rw [← HO.out.1, Go.Proofs.part_first_break ltInt d a b pivot HO.out.2.1 HO.out.2.2.1 HO.out.2.2.2 (HS.out.trans HI2.out).symm (HT.out.trans hj2).symm (by omega)]
          have Hr := Lib.hid hr
          have hA3 := HAj.out.drew nq
          clear hj2 hr hcw
          generalize wr.drewN nq = W3 at hA3 ⊢
          have hnj := HI.out.2.2.2
          have c1 := HFam.out.1 W3 hA3 j' hj'N
          have c2 := HFam.out.1 W3 hA3 a haN
          have f1 := HFam.out.2 W3 hA3 j' hj'N
          have f2 := HFam.out.2 W3 hA3 a haN
          have hA4 := (hA3.swap (blk_lt HH.out (t := a) (by have := HN.out; omega)) 0 (j := j') (k := a) (by omega) (by omega)).drew1
          rw [← HG.out, ← HG.out] at hA4
          have HA4 := Lib.hid hA4
          clear hA4 hA3
          obtain ⟨v3, hy3⟩ := cell?_setCell_some (w := W3) (p := ⟨blk, off + j', none⟩) (x := .int .i32 (G1 a)) (q := ⟨blk, off + a, none⟩) c2
          go_wp2
          go_region
          all_goals go_wp2
          all_goals go_ret2
          all_goals rw [Hr.out]
          all_goals exact ⟨rfl, HA4.out⟩
end Go.Proofs.YtipigfgnpfhdbaaGreatDoor.Q
namespace Go.Proofs.YtipigfgnpfhdbaaGreatDoor.Q
open Go.RowKit U
open Go.Sort (Below SWO rd Rd pdq pdq_small pdq_heap pdq_done pdq_eq pdq_left pdq_right rd_facts rd_lim_le rd_false rd_true rd_c rd_dec rd_not rd_pi_yes rd_pi_no round_eq round_part choosePivot breakPatterns reverseRange insertionSort heapSort partialInsertionSort partition partitionEqual hintCode Hint ltInt)
set_option linter.unusedVariables false

def Done (A : Array Int → World → Prop) (d : Array Int) (e : Ending) (w : World) : Prop := e = .returned (.tuple #[]) ∧ A d w
def PdR (A : Array Int → World → Prop) (N M : Nat) (R : Array Int) (g : Nat) (s1 s2 s3 s8 s9 : Value) (wr : World) : Prop := ∃ (a b lim : Nat) (wb wp : Bool) (dk : Array Int),
  s1 = .int .i64 a ∧ s2 = .int .i64 b ∧ s3 = .int .i64 lim ∧ s8 = .bool wb ∧ s9 = .bool wp ∧
  (a ≤ b ∧ b ≤ N ∧ b - a ≤ g ∧ g ≤ M ∧ lim < 4611686018427387904 ∧ dk.size = N) ∧ Below ltInt a b dk ∧ A dk wr ∧ pdq ltInt dk a b lim wb wp = R
/-- What the round has ahead of the partition, one by one. -/
structure RdF (dk : Array Int) (a b lim : Nat) (wb wp : Bool) (r : Rd Int) : Prop where
  b0 : wb = false → r.d1 = breakPatterns dk a b ∧ r.lim = lim - 1
  b1 : wb = true → r.d1 = dk ∧ r.lim = lim
  c : choosePivot ltInt r.d1 a b = r.c
  dec : r.c.2 = .decreasing → r.d2 = reverseRange r.d1 a b ∧ r.pivot = (b - 1) - (r.c.1 - a) ∧ r.hint = .increasing
  ndec : r.c.2 ≠ .decreasing → r.d2 = r.d1 ∧ r.pivot = r.c.1 ∧ r.hint = r.c.2
  yes : (wb && wp && decide (r.hint = .increasing)) = true → r.pi = partialInsertionSort ltInt r.d2 a b
  no : (wb && wp && decide (r.hint = .increasing)) = false → r.pi = (r.d2, false)
  s1 : r.d1.size = dk.size
  c1 : a ≤ r.c.1 ∧ r.c.1 < b
  s2 : r.d2.size = dk.size
  pv : a ≤ r.pivot ∧ r.pivot < b
  s3 : r.pi.1.size = dk.size
  B3 : Below ltInt a b r.pi.1
  lim_le : r.lim ≤ lim
theorem rdf_of {dk : Array Int} {a b lim : Nat} {wb wp : Bool} (hab : a < b) (hb : b ≤ dk.size) (hB : Below ltInt a b dk) : RdF dk a b lim wb wp (rd ltInt dk a b lim wb wp) := by
  obtain ⟨s1, B1, hc1, s2, B2, hpv, s3, B3⟩ := rd_facts (limit := lim) (wb := wb) (wp := wp) Go.Sort.swo_ltInt Go.Sort.partialInsertionSort_holds Go.Sort.reverseRange_holds hab hb hB
  exact ⟨fun h => by subst h; exact rd_false, fun h => by subst h; exact rd_true, rd_c.symm, rd_dec, rd_not, rd_pi_yes, rd_pi_no, s1, hc1, s2, hpv, s3, B3, rd_lim_le⟩
theorem pdqI (d : Array Int) (a b limit : Nat) (wb wp : Bool) (h1 : a ≤ b) (h2 : b ≤ d.size) (h3 : Below ltInt a b d) : Go.Sort.PermIn a b d (pdq ltInt d a b limit wb wp) ∧ Go.Sort.SortedIn ltInt a b (pdq ltInt d a b limit wb wp) := Go.Sort.pdq_holds Go.Sort.insertionSort_holds Go.Sort.heapSort_holds Go.Sort.partialInsertionSort_holds (Go.Sort.partition_holds ltInt) (Go.Sort.partitionEqual_holds ltInt) Go.Sort.reverseRange_holds Go.Sort.swo_ltInt d a b limit wb wp h1 h2 h3
theorem sb64 {a b m N : Nat} (h : a ≤ b) (hm : b - a = m) (hb : b < N) (h2 : N ≤ 4611686018427387904) : wrap64 ((b : Int) - (a : Int)) = (m : Int) := by unfold wrap64; omega
theorem dcl64 {n : Nat} (h0 : 1 ≤ n) (h : n < 4611686018427387904) : wrap64 ((n : Int) - 1) = ((n - 1 : Nat) : Int) := by unfold wrap64; omega
theorem o3_64 {l l8 : Nat} (h : l / 8 = l8) (hl : l < 1152921504606846976) : wrap64 ((l : Int) / 8) = (l8 : Int) := by unfold wrap64; omega
theorem o5_64 {l l8 : Nat} (h : l / 8 = l8) : (l : Int).tdiv 8 = (l8 : Int) := by rw [Int.tdiv_eq_ediv_of_nonneg (by omega)]; omega
theorem o6_64 {l l8 : Nat} (h : l / 8 = l8) (hl : l < 1152921504606846976) : wrap64 (l8 : Int) = (l8 : Int) := by unfold wrap64; omega
theorem o7_64 {l l8 : Nat} (h : l / 8 = l8) : (l : Int) / 8 = (l8 : Int) := by omega
theorem lt_sub {a b l N : Nat} (h : b - a = l) (hb : b ≤ N) (hN : N < 1152921504606846976) : l < 1152921504606846976 := by omega
theorem lt_one {x y N : Nat} (h : x < y) (hb : y ≤ N) : x < N + 1 := by omega
theorem le_one {y N : Nat} (hb : y ≤ N) : y < N + 1 := by omega
theorem lt_lt {x y N : Nat} (h : x < y) (hb : y ≤ N) : x < N := by omega
theorem n62 {N : Nat} (h : N < 1152921504606846976) : N + 1 ≤ 4611686018427387904 ∧ N < 4611686018427387904 := by omega
theorem eighth64 {x p : Nat} : decide ((x : Int).tdiv 8 ≤ (p : Int)) = decide (p ≥ x / 8) := decide_eq_decide.2 (by rw [Int.tdiv_eq_ediv_of_nonneg (by omega)]; exact ⟨fun h => by omega, fun h => by omega⟩)
theorem code_dec {h : Hint} : (hintCode h == 2) = decide (h = .decreasing) := by cases h <;> rfl
theorem code_inc {h : Hint} : (hintCode h == 1) = decide (h = .increasing) := by cases h <;> rfl
set_option maxRecDepth 1000000 in
set_option maxHeartbeats 6400000 in
theorem pdq_walk (A : Array Int → World → Prop) (blk off cap N : Nat) (hN2 : N < 1152921504606846976)
    (HDrew : Hid (∀ (d : Array Int) (w : World) (q : Nat), A d w → A d (w.drewN q)))
    (HFam : Hid (∀ (d : Array Int) (w : World), d.size = N → A d w → (∀ t, t < N → w.cell? ⟨blk, off + t, none⟩ = some (.int .i32 d[t]!)) ∧ (∀ t, t < N → w.frozen? ⟨blk, off + t, none⟩ = false)))
    (HIns : Hid (∀ (a b : Nat) (d : Array Int) (w : World), d.size = N → A d w → a ≤ b → b ≤ N → Calls Tryz.prog 73 #[.slice (some ⟨blk, off, none⟩) N cap, .int .i64 a, .int .i64 b] w (Done A (insertionSort ltInt d a b))))
    (HHeap : Hid (∀ (a b : Nat) (d : Array Int) (w : World), d.size = N → A d w → a < b → b ≤ N → Calls Tryz.prog 74 #[.slice (some ⟨blk, off, none⟩) N cap, .int .i64 a, .int .i64 b] w (Done A (heapSort ltInt d a b))))
    (HBrk : Hid (∀ (a b : Nat) (d : Array Int) (w : World), d.size = N → A d w → a ≤ b → b ≤ N → Calls Tryz.prog 75 #[.slice (some ⟨blk, off, none⟩) N cap, .int .i64 a, .int .i64 b] w (Done A (breakPatterns d a b))))
    (HRev : Hid (∀ (a b : Nat) (d : Array Int) (w : World), d.size = N → A d w → a ≤ b → b ≤ N → Calls Tryz.prog 77 #[.slice (some ⟨blk, off, none⟩) N cap, .int .i64 a, .int .i64 b] w (Done A (reverseRange d a b))))
    (HPiv : Hid (∀ (a b : Nat) (d : Array Int) (w : World), d.size = N → A d w → a + 12 < b → b ≤ N → Calls Tryz.prog 76 #[.slice (some ⟨blk, off, none⟩) N cap, .int .i64 a, .int .i64 b] w fun e w' => e = .returned (.tuple #[.int .i64 (choosePivot ltInt d a b).1, .int .i64 (hintCode (choosePivot ltInt d a b).2)]) ∧ A d w'))
    (HPin : Hid (∀ (a b : Nat) (d : Array Int) (w : World), d.size = N → A d w → a < b → b ≤ N → Calls Tryz.prog 78 #[.slice (some ⟨blk, off, none⟩) N cap, .int .i64 a, .int .i64 b] w fun e w' => e = .returned (.bool (partialInsertionSort ltInt d a b).2) ∧ A (partialInsertionSort ltInt d a b).1 w'))
    (HPeq : Hid (∀ (a b p : Nat) (d : Array Int) (w : World), d.size = N → A d w → a ≤ p → p < b → b ≤ N → Calls Tryz.prog 80 #[.slice (some ⟨blk, off, none⟩) N cap, .int .i64 a, .int .i64 b, .int .i64 p] w fun e w' => e = .returned (.int .i64 (partitionEqual ltInt d a b p).1) ∧ A (partitionEqual ltInt d a b p).2 w'))
    (HPar : Hid (∀ (a b p : Nat) (d : Array Int) (w : World), d.size = N → A d w → a ≤ p → p < b → b ≤ N → Calls Tryz.prog 81 #[.slice (some ⟨blk, off, none⟩) N cap, .int .i64 a, .int .i64 b, .int .i64 p] w fun e w' => e = .returned (.tuple #[.int .i64 (partition ltInt d a b p).1, .bool (partition ltInt d a b p).2.1]) ∧ A (partition ltInt d a b p).2.2 w')) :
    ∀ (M a b limit : Nat) (d : Array Int) (w : World), b - a < M → d.size = N → A d w → a ≤ b → b ≤ N → limit < 4611686018427387904 → Below ltInt a b d →
    Calls Tryz.prog 50 #[.slice (some ⟨blk, off, none⟩) N cap, .int .i64 a, .int .i64 b, .int .i64 limit] w (Done A (pdq ltInt d a b limit true true)) := by
  intro M
  induction M with
  | zero => intro a b limit d w h; exact absurd h (Nat.not_lt_zero _)
  | succ M ih =>
    intro a0 b0 limit0 d0 w hM hd hA hab hb hlimit hB
    have Hih := Lib.hid ih
    have HLs := Lib.hid less_is
    obtain ⟨R, hR⟩ : ∃ R, pdq ltInt d0 a0 b0 limit0 true true = R := ⟨_, rfl⟩
    rw [hR]
    have H0 := Lib.hid (show PdR A N M R M (.int .i64 a0) (.int .i64 b0) (.int .i64 limit0) (.bool true) (.bool true) w from ⟨a0, b0, limit0, true, true, d0, rfl, rfl, rfl, rfl, rfl, ⟨hab, hb, Nat.le_of_lt_succ hM, Nat.le_refl _, hlimit, hd⟩, hB, hA, hR⟩)
    clear ih hM hd hA hab hb hlimit hB hR
    go_enter Tryz.func50, Tryz.ntmps50
    go_wp2
    go_loopg [1, 2, 3, 8, 9] M (fun g s1 s2 s3 s8 s9 wr => PdR A N M R g s1 s2 s3 s8 s9 wr)
    case atStart => exact H0.out
    case round =>
      clear H0
      obtain ⟨a, b, lim, wb, wp, dk, rfl, rfl, rfl, rfl, rfl, hI, hB, hA, hO⟩ := hrel
      have HI := Lib.hid hI
      have HB := Lib.hid hB
      have HA := Lib.hid hA
      have HO := Lib.hid hO
      obtain ⟨l, hl⟩ : ∃ l, b - a = l := ⟨_, rfl⟩
      have pl : wrap64 ((b : Int) - (a : Int)) = (l : Int) := sb64 hI.1 hl (Nat.lt_succ_of_le hI.2.1) (by omega)
      have Hl := Lib.hid hl
      clear hI hB hA hO hl
      by_cases h12 : l ≤ 12
      · have q12 : decide ((l : Int) ≤ 12) = true := by simp; omega
        have hc := HIns.out a b dk wr HI.out.2.2.2.2.2 HA.out HI.out.1 HI.out.2.1
        rw [← pdq_small (limit := lim) (wb := wb) (wp := wp) (by rw [Hl.out]; exact h12), HO.out] at hc
        have Hc := Lib.hid hc
        clear hc h12
        go_wp2_with (go_at_call 73; (with_reducible refine Hc.out.mono ?_); rintro e w1 ⟨rfl, hA1⟩)
        (try simp only [Exit.inBlock, Exit.then]); refine bodyPost_ret (results_none rfl _ _ _) rfl ?_
        exact ⟨rfl, hA1⟩
      · have q12 : decide ((l : Int) ≤ 12) = false := by simp; omega
        have Hn12 := Lib.hid (show ¬ b - a ≤ 12 by rw [Hl.out]; exact h12)
        have h13 : 13 ≤ l := by omega
        clear h12
        by_cases hl0 : lim = 0
        · have ql : ((lim : Int) == 0) = true := by simp; omega
          have hc := HHeap.out a b dk wr HI.out.2.2.2.2.2 HA.out (by have := Hl.out; omega) HI.out.2.1
          rw [← pdq_heap (limit := lim) (wb := wb) (wp := wp) Hn12.out hl0, HO.out] at hc
          have Hc := Lib.hid hc
          clear hc hl0
          go_wp2_with (go_at_call 74; (with_reducible refine Hc.out.mono ?_); rintro e w1 ⟨rfl, hA1⟩)
          (try simp only [Exit.inBlock, Exit.then]); refine bodyPost_ret (results_none rfl _ _ _) rfl ?_
          exact ⟨rfl, hA1⟩
        · have ql : ((lim : Int) == 0) = false := by simp; omega
          have Hl0 := Lib.hid hl0
          clear hl0
          obtain ⟨r, hr⟩ : ∃ r, rd ltInt dk a b lim wb wp = r := ⟨_, rfl⟩
          have hF := rdf_of (dk := dk) (a := a) (b := b) (lim := lim) (wb := wb) (wp := wp) (by have := Hl.out; omega) (by rw [HI.out.2.2.2.2.2]; exact HI.out.2.1) HB.out
          rw [hr] at hF
          have HF := Lib.hid hF
          have Hr := Lib.hid hr
          clear hF hr
          go_upto_if 35 with fail
          simp only [pl]
          clear pl
          go_cut [3] from 19 (fun s3 wc => s3 = .int .i64 r.lim ∧ A r.d1 wc)
          case first =>
            cases wb
            · have hc := HBrk.out a b dk wr HI.out.2.2.2.2.2 HA.out HI.out.1 HI.out.2.1
              rw [← (HF.out.b0 rfl).1] at hc
              have Hc := Lib.hid hc
              have hw := dcl64 (n := lim) (by have := Hl0.out; omega) HI.out.2.2.2.2.1
              rw [← (HF.out.b0 rfl).2] at hw
              have Hw := Lib.hid hw
              clear hc hw
              go_wp2_with (go_at_call 75; (with_reducible refine Hc.out.mono ?_); rintro e w1 ⟨rfl, hA1⟩; have HA1 := Lib.hid hA1; clear hA1)
              go_meet
              case rel => exact ⟨by first | rfl | rw [Hw.out], HA1.out⟩
            · go_wp2_with fail
              go_meet
              case rel => exact ⟨by rw [(HF.out.b1 rfl).2], by rw [(HF.out.b1 rfl).1]; exact HA.out⟩
          case rest =>
            obtain ⟨rfl, hA1⟩ := hcut
            have hc := HPiv.out a b r.d1 wc (HF.out.s1.trans HI.out.2.2.2.2.2) hA1 (by have := Hl.out; omega) HI.out.2.1
            rw [HF.out.c] at hc
            have Hc := Lib.hid hc
            clear hc hA1 HA
            go_upto_if 50 with (go_at_call 76; (with_reducible refine Hc.out.mono ?_); rintro e w2 ⟨rfl, hA2⟩; have HA2 := Lib.hid hA2; clear hA2)
            clear Hc
            go_cut [11, 12] from 19 (fun s11 s12 wc => s11 = .int .i64 r.pivot ∧ s12 = .int .i64 (hintCode r.hint) ∧ A r.d2 wc)
            case first =>
              by_cases hh : r.c.2 = .decreasing
              · have qh : (hintCode r.c.2 == 2) = true := by rw [code_dec]; simp [hh]
                have hc := HRev.out a b r.d1 w2 (HF.out.s1.trans HI.out.2.2.2.2.2) HA2.out HI.out.1 HI.out.2.1
                rw [← (HF.out.dec hh).1] at hc
                have Hc := Lib.hid hc
                have Hh := Lib.hid (HF.out.dec hh)
                have hcr := HF.out.c1
                have hbN := HI.out.2.1
                obtain ⟨b1, hb1⟩ : ∃ b1, b - 1 = b1 := ⟨_, rfl⟩
                obtain ⟨ca, hca⟩ : ∃ ca, r.c.1 - a = ca := ⟨_, rfl⟩
                have k1 : wrap64 ((b : Int) - 1) = (b1 : Int) := by unfold wrap64; omega
                have k2 : wrap64 ((r.c.1 : Int) - (a : Int)) = (ca : Int) := by unfold wrap64; omega
                have k3 : wrap64 ((b1 : Int) - (ca : Int)) = ((b1 - ca : Nat) : Int) := by unfold wrap64; omega
                have Hp := Lib.hid (show r.pivot = b1 - ca by rw [Hh.out.2.1, hb1, hca])
                clear hc hh hcr hbN hb1 hca
                go_wp2_with (go_at_call 77; (with_reducible refine Hc.out.mono ?_); rintro e w3 ⟨rfl, hA3⟩; have HA3 := Lib.hid hA3; clear hA3)
                go_meet
                case rel => exact ⟨by rw [Hp.out]; first | rfl | rw [k3], by rw [Hh.out.2.2]; rfl, HA3.out⟩
              · have qh : (hintCode r.c.2 == 2) = false := by rw [code_dec]; simp [hh]
                have Hh := Lib.hid (HF.out.ndec hh)
                clear hh
                go_wp2_with fail
                go_meet
                case rel => exact ⟨by rw [Hh.out.2.1], by rw [Hh.out.2.2], by rw [Hh.out.1]; exact HA2.out⟩
            case rest =>
              obtain ⟨rfl, rfl, hA3⟩ := hcut
              have HA3 := Lib.hid hA3
              clear hA3 HA2
              have qi := code_inc (h := r.hint)
              obtain ⟨hi, hhi⟩ : ∃ hi, decide (r.hint = .increasing) = hi := ⟨_, rfl⟩
              rw [hhi] at qi
              have Hhi := Lib.hid hhi
              clear hhi
              go_upto_region 15 with fail
              go_cut [12, 68] from 19 (fun s12 s68 wx => s12 = .int .i64 (hintCode r.hint) ∧ s68 = .bool (wb && wp && hi) ∧ wx = wc)
              case first =>
                cases wb <;> cases wp <;> (go_wp2_with fail; go_meet; exact ⟨rfl, rfl, rfl⟩)
              case rest =>
                obtain ⟨rfl, rfl, rfl⟩ := hcut
                go_upto_if 68 with fail
                go_cut [] from 19 (fun wx => r.pi.2 = false ∧ A r.pi.1 wx)
                case first =>
                  cases h68 : (wb && wp && hi)
                  · have epi := HF.out.no (by rw [Hhi.out]; exact h68)
                    have Hepi := Lib.hid epi
                    clear epi
                    go_wp2_with fail
                    go_meet
                    case rel => exact ⟨by rw [Hepi.out], by rw [Hepi.out]; exact HA3.out⟩
                  · have epi := HF.out.yes (by rw [Hhi.out]; exact h68)
                    have hc := HPin.out a b r.d2 wc (HF.out.s2.trans HI.out.2.2.2.2.2) HA3.out (by have := Hl.out; omega) HI.out.2.1
                    rw [← epi] at hc
                    obtain ⟨pv, hpv⟩ : ∃ pv, r.pi.2 = pv := ⟨_, rfl⟩
                    rw [hpv] at hc
                    have Hc := Lib.hid hc
                    have Hpv := Lib.hid hpv
                    clear hpv hc epi
                    cases pv
                    · go_wp2_with (go_at_call 78; (with_reducible refine Hc.out.mono ?_); rintro e w4 ⟨rfl, hA4⟩; have HA4 := Lib.hid hA4; clear hA4)
                      go_meet
                      case rel => exact ⟨Hpv.out, HA4.out⟩
                    · have hdn := pdq_done (limit := lim) (wb := wb) (wp := wp) Hn12.out Hl0.out (by rw [Hr.out]; exact Hpv.out)
                      rw [Hr.out, HO.out] at hdn
                      have Hdn := Lib.hid hdn
                      clear hdn
                      go_wp2_with (go_at_call 78; (with_reducible refine Hc.out.mono ?_); rintro e w4 ⟨rfl, hA4⟩; have HA4 := Lib.hid hA4; clear hA4)
                      (try simp only [Exit.inBlock, Exit.then]); refine bodyPost_ret (results_none rfl _ _ _) rfl ?_
                      exact ⟨rfl, by rw [Hdn.out]; exact HA4.out⟩
                case rest =>
                  obtain ⟨hp2, hA5⟩ := hcut
                  have Hp2 := Lib.hid hp2
                  clear HA3 hp2
                  obtain ⟨G, hG⟩ : ∃ G : Nat → Int, ∀ t, G t = r.pi.1[t]! := ⟨fun t => r.pi.1[t]!, fun _ => rfl⟩
                  obtain ⟨hcw, hfw⟩ := HFam.out r.pi.1 wc (HF.out.s3.trans HI.out.2.2.2.2.2) hA5
                  simp only [← hG] at hcw
                  have HG := Lib.hid hG
                  have HA5 := Lib.hid hA5
                  clear hG hA5
                  have hpN : r.pivot < N := by have := HF.out.pv; have := HI.out; omega
                  obtain ⟨pv, hpv⟩ : ∃ pv, r.pivot = pv := ⟨_, rfl⟩
                  rw [hpv] at hpN ⊢
                  have Hpv := Lib.hid hpv
                  clear hpv
                  go_upto_region 17 with fail
                  go_cut [87] from 19 (fun s87 wx => s87 = .bool (decide (a > 0) && !ltInt (G (a - 1)) (G pv)) ∧ A r.pi.1 wx)
                  case first =>
                    rcases Nat.eq_zero_or_pos a with ha0 | ha0
                    · have qa : decide ((0 : Int) < (a : Int)) = false := by simp; omega
                      have qa2 : decide (0 < a) = false := by simp; omega
                      have hna : ¬ 0 < a := by omega
                      have Ha := Lib.hid (show (decide (a > 0) && !ltInt (G (a - 1)) (G pv)) = false by simp [ha0])
                      clear ha0
                      go_big_quiet (first | (go_at_call 79; refine Calls.quiet_of_same (HLs.out _ _ _)))
                      go_wp2_with fail
                      go_meet
                      case rel => exact ⟨by rw [Ha.out], HDrew.out _ _ nq HA5.out⟩
                    · have qa : decide ((0 : Int) < (a : Int)) = true := by simp; omega
                      have ha1 : a - 1 < N := by have := HI.out; omega
                      have hwa := dec64 (n := a) (N := N + 1) ha0 (by have := HI.out; omega) (by omega)
                      have Ha := Lib.hid (show (decide (a > 0) && !ltInt (G (a - 1)) (G pv)) = !ltInt (G (a - 1)) (G pv) by simp [ha0])
                      go_big_quiet (first | (go_at_call 79; refine Calls.quiet_of_same (HLs.out _ _ _)))
                      go_wp2_with fail
                      go_meet
                      case rel => exact ⟨by rw [Ha.out], HDrew.out _ _ nq HA5.out⟩
                  case rest =>
                    obtain ⟨rfl, hA6⟩ := hcut
                    have HA6 := Lib.hid hA6
                    clear hcw hfw HA5 hA6
                    cases h87 : (decide (a > 0) && !ltInt (G (a - 1)) (G pv))
                    · have H87 := Lib.hid (show (decide (a > 0) && !ltInt r.pi.1[a - 1]! r.pi.1[r.pivot]!) = false by rw [← HG.out, ← HG.out, Hpv.out]; exact h87)
                      clear h87
                      obtain ⟨mid, ap, d4, hx⟩ : ∃ mid ap d4, partition ltInt r.pi.1 a b r.pivot = (mid, ap, d4) := ⟨(partition ltInt r.pi.1 a b r.pivot).1, (partition ltInt r.pi.1 a b r.pivot).2.1, (partition ltInt r.pi.1 a b r.pivot).2.2, rfl⟩
                      obtain ⟨r1, r2, r3, r4, r5, r6, r7⟩ := round_part Go.Sort.swo_ltInt (Go.Sort.partition_holds ltInt) HF.out.pv.1 HF.out.pv.2 (show b ≤ r.pi.1.size by rw [HF.out.s3, HI.out.2.2.2.2.2]; exact HI.out.2.1) HF.out.B3 hx
                      have hc := HPar.out a b r.pivot r.pi.1 wc (HF.out.s3.trans HI.out.2.2.2.2.2) HA6.out HF.out.pv.1 HF.out.pv.2 HI.out.2.1
                      rw [hx, Hpv.out] at hc
                      have Hc := Lib.hid hc
                      have HX := Lib.hid hx
                      have Hs4 := Lib.hid (r3.trans (HF.out.s3.trans HI.out.2.2.2.2.2))
                      have Hr1 := Lib.hid (And.intro r1 r2)
                      have Hr4 := Lib.hid (And.intro r4 r5)
                      have Hr6 := Lib.hid (And.intro r6 r7)
                      clear hx hc r1 r2 r3 r4 r5 r6 r7
                      obtain ⟨ll, hll⟩ : ∃ ll, mid - a = ll := ⟨_, rfl⟩
                      obtain ⟨rl, hrl⟩ : ∃ rl, b - mid = rl := ⟨_, rfl⟩
                      have w1 : wrap64 ((mid : Int) - (a : Int)) = (ll : Int) := sb64 Hr1.out.1 hll (N := N + 1) (lt_one Hr1.out.2 HI.out.2.1) (n62 hN2).1
                      have w2 : wrap64 ((b : Int) - (mid : Int)) = (rl : Int) := sb64 (Nat.le_of_lt Hr1.out.2) hrl (N := N + 1) (le_one HI.out.2.1) (n62 hN2).1
                      obtain ⟨l8, hl8⟩ : ∃ l8, l / 8 = l8 := ⟨_, rfl⟩
                      have hlN : l < 1152921504606846976 := lt_sub Hl.out HI.out.2.1 hN2
                      have w3 : wrap64 ((l : Int) / 8) = (l8 : Int) := o3_64 hl8 hlN
                      have w5 : (l : Int).tdiv 8 = (l8 : Int) := o5_64 hl8
                      have w6 : wrap64 (l8 : Int) = (l8 : Int) := o6_64 hl8 hlN
                      have w7 : (l : Int) / 8 = (l8 : Int) := o7_64 hl8
                      have H8 := Lib.hid hl8
                      clear hl8 hlN
                      have w4 : wrap64 ((mid : Int) + 1) = ((mid + 1 : Nat) : Int) := inc64 (N := N) (lt_lt Hr1.out.2 HI.out.2.1) (n62 hN2).2
                      have HL := Lib.hid (And.intro hll hrl)
                      clear hll hrl
                      by_cases h4 : ll < rl
                      · have q4 : decide ((ll : Int) < (rl : Int)) = true := by simp; omega
                        have q5 : decide (ll < rl) = true := by simp; omega
                        obtain ⟨wn, hwn⟩ : ∃ wn, decide (ll ≥ l / 8) = wn := ⟨_, rfl⟩
                        have e1 : decide ((l8 : Int) ≤ (ll : Int)) = wn := by rw [← hwn, H8.out]; simp
                        have e2 : decide (l8 ≤ ll) = wn := by rw [← hwn, H8.out]
                        obtain ⟨d5, hd5⟩ : ∃ d5, pdq ltInt d4 a mid r.lim true true = d5 := ⟨_, rfl⟩
                        have hpl := pdq_left (limit := lim) (wb := wb) (wp := wp) Hn12.out Hl0.out (by rw [Hr.out]; exact Hp2.out) (by rw [Hr.out]; exact H87.out) (by rw [Hr.out, HX.out]; exact Hr1.out) (by rw [Hr.out, HX.out]; show mid - a < b - mid; rw [HL.out.1, HL.out.2]; exact h4)
                        rw [Hr.out, HX.out] at hpl
                        simp only at hpl
                        rw [hd5, HO.out, HL.out.1, Hl.out, hwn] at hpl
                        have hih := fun w7 hA7 => Hih.out a mid r.lim d4 w7 (by have := Hr1.out; have := HI.out; omega) Hs4.out hA7 Hr1.out.1 (by have := Hr1.out; have := HI.out; omega) (Nat.lt_of_le_of_lt HF.out.lim_le HI.out.2.2.2.2.1) Hr4.out.1
                        simp only [hd5] at hih
                        obtain ⟨pL, sL⟩ := pdqI d4 a mid r.lim true true (by have := Hr1.out; omega) (by rw [Hs4.out]; have := Hr1.out; have := HI.out; omega) Hr4.out.1
                        have hB5 := (Hr6.out.1 _ pL sL).1
                        rw [hd5] at hB5 pL
                        have Hpl := Lib.hid hpl
                        have Hc2 := Lib.hid hih
                        have HB5 := Lib.hid (And.intro hB5 (pL.1.trans Hs4.out))
                        clear hpl hih hd5 pL sL hB5 hwn
                        go_wp2_with (first
                          | (go_at_call 81; (with_reducible refine Hc.out.mono ?_); rintro e w7 ⟨rfl, hA7⟩; have HA7 := Lib.hid hA7; clear hA7)
                          | (go_at_call 50; (with_reducible refine (Hc2.out _ HA7.out).mono ?_); rintro e w8 ⟨rfl, hA8⟩; have HA8 := Lib.hid hA8; clear hA8))
                        go_roundg (b - (mid + 1))
                        case measure => have := Hr1.out; have := HI.out; have := Hl.out; omega
                        case rel =>
                          refine ⟨mid + 1, b, r.lim, wn, ap, d5, by first | rfl | rw [w4], rfl, rfl, by first | rfl | rw [e1], rfl, ⟨by have := Hr1.out; omega, HI.out.2.1, Nat.le_refl _, by have := Hr1.out; have := HI.out; omega, Nat.lt_of_le_of_lt HF.out.lim_le HI.out.2.2.2.2.1, HB5.out.2⟩, HB5.out.1, HA8.out, Hpl.out.symm⟩
                      · have q4 : decide ((ll : Int) < (rl : Int)) = false := by simp; omega
                        have q5 : decide (ll < rl) = false := by simp; omega
                        obtain ⟨wn, hwn⟩ : ∃ wn, decide (rl ≥ l / 8) = wn := ⟨_, rfl⟩
                        have e1 : decide ((l8 : Int) ≤ (rl : Int)) = wn := by rw [← hwn, H8.out]; simp
                        have e2 : decide (l8 ≤ rl) = wn := by rw [← hwn, H8.out]
                        obtain ⟨d5, hd5⟩ : ∃ d5, pdq ltInt d4 (mid + 1) b r.lim true true = d5 := ⟨_, rfl⟩
                        have hpl := pdq_right (limit := lim) (wb := wb) (wp := wp) Hn12.out Hl0.out (by rw [Hr.out]; exact Hp2.out) (by rw [Hr.out]; exact H87.out) (by rw [Hr.out, HX.out]; exact Hr1.out) (by rw [Hr.out, HX.out]; show ¬ mid - a < b - mid; rw [HL.out.1, HL.out.2]; exact h4)
                        rw [Hr.out, HX.out] at hpl
                        simp only at hpl
                        rw [hd5, HO.out, HL.out.2, Hl.out, hwn] at hpl
                        have hih := fun w7 hA7 => Hih.out (mid + 1) b r.lim d4 w7 (by have := Hr1.out; have := HI.out; omega) Hs4.out hA7 Hr1.out.2 HI.out.2.1 (Nat.lt_of_le_of_lt HF.out.lim_le HI.out.2.2.2.2.1) Hr4.out.2
                        simp only [hd5, show ((mid + 1 : Nat) : Int) = (mid : Int) + 1 by omega] at hih
                        obtain ⟨pL, sL⟩ := pdqI d4 (mid + 1) b r.lim true true (by have := Hr1.out; omega) (by rw [Hs4.out]; have := HI.out; omega) Hr4.out.2
                        have hB5 := (Hr6.out.2 _ pL sL).1
                        rw [hd5] at hB5 pL
                        have Hpl := Lib.hid hpl
                        have Hc2 := Lib.hid hih
                        have HB5 := Lib.hid (And.intro hB5 (pL.1.trans Hs4.out))
                        clear hpl hih hd5 pL sL hB5 hwn
                        go_wp2_with (first
                          | (go_at_call 81; (with_reducible refine Hc.out.mono ?_); rintro e w7 ⟨rfl, hA7⟩; have HA7 := Lib.hid hA7; clear hA7)
                          | (go_at_call 50; (with_reducible refine (Hc2.out _ HA7.out).mono ?_); rintro e w8 ⟨rfl, hA8⟩; have HA8 := Lib.hid hA8; clear hA8))
                        go_roundg (mid - a)
                        case measure => have := Hr1.out; have := HI.out; have := Hl.out; omega
                        case rel =>
                          refine ⟨a, mid, r.lim, wn, ap, d5, rfl, rfl, rfl, by first | rfl | rw [e1], rfl, ⟨Hr1.out.1, by have := Hr1.out; have := HI.out; omega, Nat.le_refl _, by have := Hr1.out; have := HI.out; omega, Nat.lt_of_le_of_lt HF.out.lim_le HI.out.2.2.2.2.1, HB5.out.2⟩, HB5.out.1, HA8.out, Hpl.out.symm⟩
                    · have h87' := h87
                      simp only [Bool.and_eq_true, decide_eq_true_eq, Bool.not_eq_true'] at h87'
                      have H87 := Lib.hid (show (decide (a > 0) && !ltInt r.pi.1[a - 1]! r.pi.1[r.pivot]!) = true by rw [← HG.out, ← HG.out, Hpv.out]; exact h87)
                      obtain ⟨mid, d4, hx⟩ : ∃ mid d4, partitionEqual ltInt r.pi.1 a b r.pivot = (mid, d4) := ⟨(partitionEqual ltInt r.pi.1 a b r.pivot).1, (partitionEqual ltInt r.pi.1 a b r.pivot).2, rfl⟩
                      obtain ⟨r1, r2, r3, r4, _⟩ := round_eq Go.Sort.swo_ltInt (Go.Sort.partitionEqual_holds ltInt) h87'.1 HF.out.pv.1 HF.out.pv.2 (show b ≤ r.pi.1.size by rw [HF.out.s3, HI.out.2.2.2.2.2]; exact HI.out.2.1) HF.out.B3 (by rw [← HG.out, ← HG.out, Hpv.out]; exact h87'.2) hx
                      have hc := HPeq.out a b r.pivot r.pi.1 wc (HF.out.s3.trans HI.out.2.2.2.2.2) HA6.out HF.out.pv.1 HF.out.pv.2 HI.out.2.1
                      rw [hx, Hpv.out] at hc
                      have hpe := pdq_eq (limit := lim) (wb := wb) (wp := wp) Hn12.out Hl0.out (by rw [Hr.out]; exact Hp2.out) (by rw [Hr.out]; exact H87.out) (by rw [Hr.out, hx]; exact ⟨r1, r2⟩)
                      rw [Hr.out, hx] at hpe
                      simp only at hpe
                      rw [HO.out] at hpe
                      have Hc := Lib.hid hc
                      have Hpe := Lib.hid hpe
                      have Hs4 := Lib.hid (r3.trans (HF.out.s3.trans HI.out.2.2.2.2.2))
                      have Hr1 := Lib.hid (And.intro r1 r2)
                      have Hr4 := Lib.hid r4
                      clear hx hc hpe r1 r2 r3 r4 h87 h87'
                      go_wp2_with (go_at_call 80; (with_reducible refine Hc.out.mono ?_); rintro e w7 ⟨rfl, hA7⟩; have HA7 := Lib.hid hA7; clear hA7)
                      go_roundg (b - mid)
                      case measure => have := Hr1.out; have := HI.out; have := Hl.out; omega
                      case rel =>
                        exact ⟨mid, b, r.lim, wb, wp, d4, rfl, rfl, rfl, rfl, rfl, ⟨Hr1.out.2, HI.out.2.1, Nat.le_refl _, by have := Hr1.out; have := HI.out; omega, Nat.lt_of_le_of_lt HF.out.lim_le HI.out.2.2.2.2.1, Hs4.out⟩, Hr4.out, HA7.out, Hpe.out.symm⟩
end Go.Proofs.YtipigfgnpfhdbaaGreatDoor.Q
namespace Go.Proofs.YtipigfgnpfhdbaaGreatDoor.Q
open Go.RowKit U
open Go.Sort (putRow Holds swp ltInt order2 median medianAdjacent)
set_option linter.unusedVariables false

def Ctr (cb s : Nat) (w : World) : Prop := w.cell? ⟨cb, 0, none⟩ = some (.int .i64 s) ∧ w.frozen? ⟨cb, 0, none⟩ = false
theorem At.newset {W w : World} {blk off : Nat} {d : Array Int} (h : At W blk off d w) {cb i : Nat} (hc : W.heap.size ≤ cb) (v : Value) : At W blk off d (w.setCell ⟨cb, i, none⟩ v) := by
  obtain ⟨n, os, rfl⟩ := h
  rw [Go.Sort.setCell_eq, Go.Sort.mapBlock_grow_new _ _ _ _ (by rw [Go.Sort.size_putRow]; exact hc)]
  exact ⟨n, _, rfl⟩
theorem Ctr.drew {cb s : Nat} {w : World} (h : Ctr cb s w) (q : Nat) : Ctr cb s (w.drewN q) := h
theorem Ctr.set {cb s t : Nat} {w : World} (h : Ctr cb s w) : Ctr cb t (w.setCell ⟨cb, 0, none⟩ (.int .i64 t)) := by
  obtain ⟨h1, h2⟩ := h
  refine ⟨?_, by rw [Go.Sort.setCell_eq, Go.Sort.frozen?_mapBlock]; exact h2⟩
  have hb := World.block_lt_of_cell? w ⟨cb, 0, none⟩ h1
  cases hh : w.heap[cb]? with
  | none => simp [World.cell?, hh] at h1
  | some o =>
    cases o with
    | cells c e fr =>
      rw [Go.Sort.setCell_eq, Go.Sort.cell?_mapBlock _ _ _ _ hh]
      have : 0 < c.size := by
        simp [World.cell?, hh] at h1
        exact (Array.getElem?_eq_some_iff.1 h1).1
      simp [this]
    | _ => simp [World.cell?, hh] at h1
def OrdPost (W : World) (blk off cb : Nat) (d : Array Int) (r : Nat × Nat × Nat) (e : Ending) (w' : World) : Prop :=
  e = .returned (.tuple #[.int .i64 r.1, .int .i64 r.2.1]) ∧ At W blk off d w' ∧ Ctr cb r.2.2 w'
set_option maxRecDepth 100000 in
set_option maxHeartbeats 4000000 in
theorem order2_is (blk off cap cb a b s : Nat) (D d : Array Int) (W w : World) (hH : Holds E W blk off D) (hd : d.size = D.size) (hA : At W blk off d w) (ha : a < D.size) (hb : b < D.size) (hsz : D.size < 4611686018427387904)
    (hcb : W.heap.size ≤ cb) (hC : Ctr cb s w) (hs : s < 1000) :
    Calls Tryz.prog 128 #[.slice (some ⟨blk, off, none⟩) D.size cap, .int .i64 a, .int .i64 b, .pointer (some ⟨cb, 0, none⟩)] w (OrdPost W blk off cb d (order2 ltInt d a b s)) := by
  obtain ⟨G, hG⟩ : ∃ G : Nat → Int, ∀ t, G t = d[t]! := ⟨fun t => d[t]!, fun _ => rfl⟩
  obtain ⟨N, hN⟩ : ∃ N, D.size = N := ⟨_, rfl⟩
  have hcw : ∀ t, t < N → w.cell? ⟨blk, off + t, none⟩ = some (.int .i32 (G t)) := fun t ht => by
    rw [hG]
    exact hA.cell hH hd (by omega)
  obtain ⟨c0, f0⟩ := hC
  have HC := Lib.hid (show Ctr cb s w from ⟨c0, f0⟩)
  have HG := Lib.hid hG
  have HA := Lib.hid hA
  have HLs := Lib.hid less_is
  have HCb := Lib.hid hcb
  rw [hN] at ha hb ⊢
  have hN2 : N < 4611686018427387904 := by omega
  have hw1 : wrap64 ((s : Int) + 1) = ((s + 1 : Nat) : Int) := by unfold wrap64; omega
  have HW := Lib.hid hw1
  clear hG hA hH hd hN hsz hcb hs hw1
  go_enter Tryz.func128, Tryz.ntmps128
  go_wp2
  go_quiet (first | (go_at_call 79; refine Calls.quiet_of_same (HLs.out _ _ _)))
  go_wp2
  · have hl : ltInt (G b) (G a) = true := by assumption
    have ho : order2 ltInt d a b s = (b, a, s + 1) := by unfold order2; rw [if_pos (by rw [← HG.out, ← HG.out]; exact hl)]
    rw [ho, HW.out]
    go_ret2
    exact ⟨rfl, (HA.out.drew nq).newset HCb.out _, (HC.out.drew nq).set⟩
  · have hl : ltInt (G b) (G a) = false := by assumption
    have ho : order2 ltInt d a b s = (a, b, s) := by unfold order2; rw [if_neg (by rw [← HG.out, ← HG.out, hl]; simp)]
    rw [ho]
    go_ret2
    exact ⟨rfl, HA.out.drew nq, HC.out.drew nq⟩
theorem ord_lt {d : Array Int} {a b s N : Nat} (ha : a < N) (hb : b < N) : (order2 ltInt d a b s).1 < N ∧ (order2 ltInt d a b s).2.1 < N ∧ (order2 ltInt d a b s).2.2 ≤ s + 1 := by
  unfold order2
  split
  · exact ⟨hb, ha, Nat.le_refl _⟩
  · exact ⟨ha, hb, Nat.le_succ _⟩
def MedPost (W : World) (blk off cb : Nat) (d : Array Int) (r : Nat × Nat) (e : Ending) (w' : World) : Prop := e = .returned (.int .i64 r.1) ∧ At W blk off d w' ∧ Ctr cb r.2 w'
theorem med_lt {d : Array Int} {a b c s N : Nat} (ha : a < N) (hb : b < N) (hc : c < N) : (median ltInt d a b c s).1 < N ∧ (median ltInt d a b c s).2 ≤ s + 3 := by
  obtain ⟨⟨x1, x2, x3⟩, e1⟩ : ∃ r, order2 ltInt d a b s = r := ⟨_, rfl⟩
  obtain ⟨⟨y1, y2, y3⟩, e2⟩ : ∃ r, order2 ltInt d x2 c x3 = r := ⟨_, rfl⟩
  obtain ⟨⟨z1, z2, z3⟩, e3⟩ : ∃ r, order2 ltInt d x1 y1 y3 = r := ⟨_, rfl⟩
  have hm : median ltInt d a b c s = (z2, z3) := by
    unfold median
    simp only [e1, e2, e3]
  have l1 := ord_lt (d := d) (s := s) ha hb
  rw [e1] at l1
  have l2 := ord_lt (d := d) (s := x3) l1.2.1 hc
  rw [e2] at l2
  have l3 := ord_lt (d := d) (s := y3) l1.1 l2.1
  rw [e3] at l3
  rw [hm]
  simp only at l1 l2 l3 ⊢
  omega
set_option maxRecDepth 100000 in
set_option maxHeartbeats 4000000 in
theorem median_is (blk off cap cb a b c s : Nat) (D d : Array Int) (W w : World) (hH : Holds E W blk off D) (hd : d.size = D.size) (hA : At W blk off d w) (ha : a < D.size) (hb : b < D.size) (hc : c < D.size) (hsz : D.size < 4611686018427387904)
    (hcb : W.heap.size ≤ cb) (hC : Ctr cb s w) (hs : s < 900) :
    Calls Tryz.prog 115 #[.slice (some ⟨blk, off, none⟩) D.size cap, .int .i64 a, .int .i64 b, .int .i64 c, .pointer (some ⟨cb, 0, none⟩)] w (MedPost W blk off cb d (median ltInt d a b c s)) := by
  obtain ⟨⟨x1, x2, x3⟩, e1⟩ : ∃ r, order2 ltInt d a b s = r := ⟨_, rfl⟩
  obtain ⟨⟨y1, y2, y3⟩, e2⟩ : ∃ r, order2 ltInt d x2 c x3 = r := ⟨_, rfl⟩
  obtain ⟨⟨z1, z2, z3⟩, e3⟩ : ∃ r, order2 ltInt d x1 y1 y3 = r := ⟨_, rfl⟩
  have hm : median ltInt d a b c s = (z2, z3) := by
    unfold median
    simp only [e1, e2, e3]
  rw [hm]
  have l1 := ord_lt (d := d) (s := s) ha hb
  rw [e1] at l1
  have l2 := ord_lt (d := d) (s := x3) l1.2.1 hc
  rw [e2] at l2
  simp only at l1 l2
  have k1 := order2_is blk off cap cb a b s D d W w hH hd hA ha hb hsz hcb hC (by omega)
  have k2 := fun w1 h1 h2 => order2_is blk off cap cb x2 c x3 D d W w1 hH hd h1 l1.2.1 hc hsz hcb h2 (by omega)
  have k3 := fun w1 h1 h2 => order2_is blk off cap cb x1 y1 y3 D d W w1 hH hd h1 l1.1 l2.1 hsz hcb h2 (by omega)
  rw [e1] at k1
  rw [e2] at k2
  rw [e3] at k3
  have K1 := Lib.hid k1
  have K2 := Lib.hid k2
  have K3 := Lib.hid k3
  clear hH hd hA ha hb hc hsz hcb hC hs hm l1 l2 k1 k2 k3 e1 e2 e3
  go_enter Tryz.func115, Tryz.ntmps115
  go_wp2_with (go_at_call 128; (first
    | ((with_reducible refine K1.out.mono ?_); rintro e w1 ⟨rfl, h1, h2⟩; have H1 := Lib.hid (And.intro h1 h2); clear h1 h2)
    | ((with_reducible refine (K2.out _ H1.out.1 H1.out.2).mono ?_); rintro e w2 ⟨rfl, h1, h2⟩; have H2 := Lib.hid (And.intro h1 h2); clear h1 h2)
    | ((with_reducible refine (K3.out _ H2.out.1 H2.out.2).mono ?_); rintro e w3 ⟨rfl, h1, h2⟩; have H3 := Lib.hid (And.intro h1 h2); clear h1 h2)))
  go_ret
  exact ⟨rfl, H3.out.1, H3.out.2⟩
set_option maxRecDepth 100000 in
set_option maxHeartbeats 4000000 in
theorem adjacent_is (blk off cap cb a s : Nat) (D d : Array Int) (W w : World) (hH : Holds E W blk off D) (hd : d.size = D.size) (hA : At W blk off d w) (h0 : 1 ≤ a) (ha : a + 1 < D.size) (hsz : D.size < 4611686018427387904)
    (hcb : W.heap.size ≤ cb) (hC : Ctr cb s w) (hs : s < 900) :
    Calls Tryz.prog 114 #[.slice (some ⟨blk, off, none⟩) D.size cap, .int .i64 a, .pointer (some ⟨cb, 0, none⟩)] w (MedPost W blk off cb d (medianAdjacent ltInt d a s)) := by
  have k1 := median_is blk off cap cb (a - 1) a (a + 1) s D d W w hH hd hA (by omega) (by omega) ha hsz hcb hC hs
  obtain ⟨R, hR⟩ : ∃ R, medianAdjacent ltInt d a s = R := ⟨_, rfl⟩
  rw [show median ltInt d (a - 1) a (a + 1) s = R from hR] at k1
  rw [hR]
  obtain ⟨x, hx⟩ : ∃ x, a - 1 = x := ⟨_, rfl⟩
  obtain ⟨z, hz⟩ : ∃ z, a + 1 = z := ⟨_, rfl⟩
  rw [hx, hz] at k1
  have p1 : wrap64 ((a : Int) - 1) = (x : Int) := by unfold wrap64; omega
  have p2 : wrap64 ((a : Int) + 1) = (z : Int) := by unfold wrap64; omega
  have K1 := Lib.hid k1
  clear hH hd hA ha hsz hcb hC hs h0 hR k1 hx hz
  go_enter Tryz.func114, Tryz.ntmps114
  go_wp2_with (go_at_call 115; (with_reducible refine K1.out.mono ?_); rintro e w1 ⟨rfl, h1, h2⟩; have H1 := Lib.hid (And.intro h1 h2); clear h1 h2)
  go_ret
  exact ⟨rfl, H1.out.1, H1.out.2⟩
end Go.Proofs.YtipigfgnpfhdbaaGreatDoor.Q
namespace Go.Proofs.YtipigfgnpfhdbaaGreatDoor.Q
open Go.RowKit U
open Go.Sort (putRow Holds swp ltInt median medianAdjacent choosePivot rawPivot hintOf hintCode)
set_option linter.unusedVariables false

theorem At.size {W w : World} {blk off : Nat} {d : Array Int} (h : At W blk off d w) : W.heap.size ≤ w.heap.size := by
  obtain ⟨n, os, rfl⟩ := h
  rw [Go.Sort.size_grow, Go.Sort.size_putRow]
  exact Nat.le_add_right _ _
theorem Ctr.made (w : World) (t : TypeId) : Ctr w.heap.size 0 (w.alloc (.cells #[.int .i64 0] t)) := ⟨by unfold World.cell?; simp only; rw [heap_alloc_last]; rfl, by unfold World.frozen?; simp only; rw [heap_alloc_last]; rfl⟩
theorem raw_of {d : Array Int} {a b l q : Nat} (hl : b - a = l) (hq : l / 4 = q) (h8 : 8 ≤ l) : rawPivot ltInt d a b = if 50 ≤ l then
    median ltInt d (medianAdjacent ltInt d (a + q) 0).1 (medianAdjacent ltInt d (a + q * 2) (medianAdjacent ltInt d (a + q) 0).2).1 (medianAdjacent ltInt d (a + q * 3) (medianAdjacent ltInt d (a + q * 2) (medianAdjacent ltInt d (a + q) 0).2).2).1 (medianAdjacent ltInt d (a + q * 3) (medianAdjacent ltInt d (a + q * 2) (medianAdjacent ltInt d (a + q) 0).2).2).2
    else median ltInt d (a + q) (a + q * 2) (a + q * 3) 0 := by
  unfold rawPivot
  simp only [hl, hq, Nat.mul_one, ge_iff_le, if_pos h8]
theorem w64 {x : Int} (h0 : -9223372036854775808 ≤ x) (h1 : x < 9223372036854775808) : wrap64 x = x := by unfold wrap64; omega
structure PNums (a b l q i j k : Nat) : Prop where
  p1 : wrap64 ((b : Int) - (a : Int)) = (l : Int)
  p2 : (l : Int).tdiv 4 = (q : Int)
  p3 : wrap64 (q : Int) = (q : Int)
  p4 : wrap64 ((q : Int) * 2) = (q : Int) * 2
  p5 : wrap64 ((q : Int) * 3) = (q : Int) * 3
  p6 : wrap64 ((a : Int) + (q : Int)) = (i : Int)
  p7 : wrap64 ((a : Int) + (q : Int) * 2) = (j : Int)
  p8 : wrap64 ((a : Int) + (q : Int) * 3) = (k : Int)
theorem pnums {a b l q i j k : Nat} (hab : a + 12 < b) (hb : b < 1152921504606846976) (hl : b - a = l) (hq : l / 4 = q) (hi : a + q = i) (hj : a + q * 2 = j) (hk : a + q * 3 = k) : PNums a b l q i j k :=
  ⟨by rw [w64 (by omega) (by omega)]; omega, by rw [Int.tdiv_eq_ediv_of_nonneg (by omega)]; omega, w64 (by omega) (by omega), w64 (by omega) (by omega), w64 (by omega) (by omega), by rw [w64 (by omega) (by omega)]; omega, by rw [w64 (by omega) (by omega)]; omega, by rw [w64 (by omega) (by omega)]; omega⟩
def PivPost (W : World) (blk off : Nat) (d : Array Int) (p s : Nat) (e : Ending) (w' : World) : Prop := e = .returned (.tuple #[.int .i64 p, .int .i64 (hintCode (hintOf s))]) ∧ At W blk off d w'
theorem code_zero : hintCode (hintOf 0) = 1 := rfl
theorem code_twelve : hintCode (hintOf 12) = 2 := rfl
theorem code_other {s : Nat} (h0 : s ≠ 0) (h12 : s ≠ 12) : hintCode (hintOf s) = 0 := by unfold hintOf; rw [if_neg h0, if_neg h12]; rfl
set_option maxRecDepth 100000 in
set_option maxHeartbeats 400000 in
theorem pivot_small (blk off cap a b l q i j k n p s : Nat) (d : Array Int) (W w : World) (HP : Hid (PNums a b l q i j k)) (h8 : 8 ≤ l) (hl : l < 50)
    (H1 : Hid (At W blk off d (w.alloc (.cells #[.int .i64 0] 3)) ∧ Ctr w.heap.size 0 (w.alloc (.cells #[.int .i64 0] 3))))
    (HM : Hid (∀ w1, At W blk off d w1 → Ctr w.heap.size 0 w1 → Calls Tryz.prog 115 #[.slice (some ⟨blk, off, none⟩) n cap, .int .i64 i, .int .i64 j, .int .i64 k, .pointer (some ⟨w.heap.size, 0, none⟩)] w1 (MedPost W blk off w.heap.size d (p, s)))) :
    Calls Tryz.prog 76 #[.slice (some ⟨blk, off, none⟩) n cap, .int .i64 a, .int .i64 b] w (PivPost W blk off d p s) := by
  go_enter Tryz.func76, Tryz.ntmps76
  obtain ⟨p1, p2, p3, p4, p5, p6, p7, p8⟩ := HP.out
  have q8 : decide ((8 : Int) ≤ (l : Int)) = true := by simp; omega
  have q50 : decide ((50 : Int) ≤ (l : Int)) = false := by simp; omega
  clear HP hl h8
  go_wp2_with (go_at_call 115; (with_reducible refine (HM.out _ H1.out.1 H1.out.2).mono ?_); rintro e w1 ⟨rfl, h1, h2⟩; obtain ⟨c0, f0⟩ := h2; have H2 := Lib.hid h1; clear h1)
  all_goals go_ret2
  · have hz : ((s : Int) == 0) = true := by assumption
    obtain rfl : s = 0 := by simp at hz; omega
    exact ⟨rfl, H2.out⟩
  · have hz : ((s : Int) == 12) = true := by assumption
    obtain rfl : s = 12 := by simp at hz; omega
    exact ⟨rfl, H2.out⟩
  · have hn : ((s : Int) == 0) = false := by assumption
    have hz : ((s : Int) == 12) = false := by assumption
    have h0 : s ≠ 0 := by simp at hn; omega
    have h12 : s ≠ 12 := by simp at hz; omega
    refine ⟨?_, H2.out⟩
    rw [code_other h0 h12]
    rfl
set_option maxRecDepth 100000 in
set_option maxHeartbeats 400000 in
theorem pivot_large (blk off cap a b l q i j k n p s i1 s1 j1 s2 k1 s3 : Nat) (d : Array Int) (W w : World) (HP : Hid (PNums a b l q i j k)) (hl : 50 ≤ l)
    (H1 : Hid (At W blk off d (w.alloc (.cells #[.int .i64 0] 3)) ∧ Ctr w.heap.size 0 (w.alloc (.cells #[.int .i64 0] 3))))
    (K1 : Hid (∀ w1, At W blk off d w1 → Ctr w.heap.size 0 w1 → Calls Tryz.prog 114 #[.slice (some ⟨blk, off, none⟩) n cap, .int .i64 i, .pointer (some ⟨w.heap.size, 0, none⟩)] w1 (MedPost W blk off w.heap.size d (i1, s1))))
    (K2 : Hid (∀ w1, At W blk off d w1 → Ctr w.heap.size s1 w1 → Calls Tryz.prog 114 #[.slice (some ⟨blk, off, none⟩) n cap, .int .i64 j, .pointer (some ⟨w.heap.size, 0, none⟩)] w1 (MedPost W blk off w.heap.size d (j1, s2))))
    (K3 : Hid (∀ w1, At W blk off d w1 → Ctr w.heap.size s2 w1 → Calls Tryz.prog 114 #[.slice (some ⟨blk, off, none⟩) n cap, .int .i64 k, .pointer (some ⟨w.heap.size, 0, none⟩)] w1 (MedPost W blk off w.heap.size d (k1, s3))))
    (HM : Hid (∀ w1, At W blk off d w1 → Ctr w.heap.size s3 w1 → Calls Tryz.prog 115 #[.slice (some ⟨blk, off, none⟩) n cap, .int .i64 i1, .int .i64 j1, .int .i64 k1, .pointer (some ⟨w.heap.size, 0, none⟩)] w1 (MedPost W blk off w.heap.size d (p, s)))) :
    Calls Tryz.prog 76 #[.slice (some ⟨blk, off, none⟩) n cap, .int .i64 a, .int .i64 b] w (PivPost W blk off d p s) := by
  go_enter Tryz.func76, Tryz.ntmps76
  obtain ⟨p1, p2, p3, p4, p5, p6, p7, p8⟩ := HP.out
  have q8 : decide ((8 : Int) ≤ (l : Int)) = true := by simp; omega
  have q50 : decide ((50 : Int) ≤ (l : Int)) = true := by simp; omega
  clear HP hl
  go_wp2_with (first
    | (go_at_call 114; (first
      | ((with_reducible refine (K1.out _ H1.out.1 H1.out.2).mono ?_); rintro e w1 ⟨rfl, h1, h2⟩; have H2 := Lib.hid (And.intro h1 h2); clear h1 h2 K1)
      | ((with_reducible refine (K2.out _ H2.out.1 H2.out.2).mono ?_); rintro e w2 ⟨rfl, h1, h2⟩; have H3 := Lib.hid (And.intro h1 h2); clear h1 h2 K2)
      | ((with_reducible refine (K3.out _ H3.out.1 H3.out.2).mono ?_); rintro e w3 ⟨rfl, h1, h2⟩; have H4 := Lib.hid (And.intro h1 h2); clear h1 h2 K3)))
    | (go_at_call 115; (with_reducible refine (HM.out _ H4.out.1 H4.out.2).mono ?_); rintro e w4 ⟨rfl, h1, h2⟩; obtain ⟨c0, f0⟩ := h2; have H5 := Lib.hid h1; clear h1))
  all_goals go_ret2
  · have hz : ((s : Int) == 0) = true := by assumption
    obtain rfl : s = 0 := by simp at hz; omega
    exact ⟨rfl, H5.out⟩
  · have hz : ((s : Int) == 12) = true := by assumption
    obtain rfl : s = 12 := by simp at hz; omega
    exact ⟨rfl, H5.out⟩
  · have hn : ((s : Int) == 0) = false := by assumption
    have hz : ((s : Int) == 12) = false := by assumption
    have h0 : s ≠ 0 := by simp at hn; omega
    have h12 : s ≠ 12 := by simp at hz; omega
    refine ⟨?_, H5.out⟩
    rw [code_other h0 h12]
    rfl
theorem adj_lt {d : Array Int} {a s N : Nat} (h0 : 1 ≤ a) (ha : a + 1 < N) : (medianAdjacent ltInt d a s).1 < N ∧ (medianAdjacent ltInt d a s).2 ≤ s + 3 := med_lt (by omega) (by omega) ha
theorem pivot_is (blk off cap a b : Nat) (D d : Array Int) (W w : World) (hH : Holds E W blk off D) (hd : d.size = D.size) (hA : At W blk off d w) (hab : a + 12 < b) (hb : b ≤ D.size) (hsz : D.size < 1152921504606846976) :
    Calls Tryz.prog 76 #[.slice (some ⟨blk, off, none⟩) D.size cap, .int .i64 a, .int .i64 b] w fun e w' => e = .returned (.tuple #[.int .i64 (choosePivot ltInt d a b).1, .int .i64 (hintCode (choosePivot ltInt d a b).2)]) ∧ At W blk off d w' := by
  rw [Go.Sort.choosePivot_eq]
  obtain ⟨l, hl⟩ : ∃ l, b - a = l := ⟨_, rfl⟩
  obtain ⟨q, hq⟩ : ∃ q, l / 4 = q := ⟨_, rfl⟩
  obtain ⟨i, hi⟩ : ∃ i, a + q = i := ⟨_, rfl⟩
  obtain ⟨j, hj⟩ : ∃ j, a + q * 2 = j := ⟨_, rfl⟩
  obtain ⟨k, hk⟩ : ∃ k, a + q * 3 = k := ⟨_, rfl⟩
  have hraw := raw_of (d := d) hl hq (by omega)
  rw [hi, hj, hk] at hraw
  rw [hraw]
  have hp := pnums hab (by omega) hl hq hi hj hk
  have hcb := hA.size
  have h1 := And.intro (hA.alloc (.cells #[.int .i64 0] 3)) (Ctr.made w 3)
  have hiN : 1 ≤ i ∧ i + 1 < D.size := by omega
  have hjN : 1 ≤ j ∧ j + 1 < D.size := by omega
  have hkN : 1 ≤ k ∧ k + 1 < D.size := by omega
  have hz : D.size < 4611686018427387904 := by omega
  by_cases h50 : 50 ≤ l
  · rw [if_pos h50]
    have a1 := adj_lt (d := d) (s := 0) hiN.1 hiN.2
    have m1 := fun w1 x1 x2 => adjacent_is blk off cap w.heap.size i 0 D d W w1 hH hd x1 hiN.1 hiN.2 hz hcb x2 (by omega)
    obtain ⟨⟨i1, s1⟩, e1⟩ : ∃ r, medianAdjacent ltInt d i 0 = r := ⟨_, rfl⟩
    rw [e1] at a1 m1 ⊢
    simp only at a1 ⊢
    have a2 := adj_lt (d := d) (s := s1) hjN.1 hjN.2
    have m2 := fun w1 x1 x2 => adjacent_is blk off cap w.heap.size j s1 D d W w1 hH hd x1 hjN.1 hjN.2 hz hcb x2 (by omega)
    obtain ⟨⟨j1, s2⟩, e2⟩ : ∃ r, medianAdjacent ltInt d j s1 = r := ⟨_, rfl⟩
    rw [e2] at a2 m2 ⊢
    simp only at a2 ⊢
    have a3 := adj_lt (d := d) (s := s2) hkN.1 hkN.2
    have m3 := fun w1 x1 x2 => adjacent_is blk off cap w.heap.size k s2 D d W w1 hH hd x1 hkN.1 hkN.2 hz hcb x2 (by omega)
    obtain ⟨⟨k1, s3⟩, e3⟩ : ∃ r, medianAdjacent ltInt d k s2 = r := ⟨_, rfl⟩
    rw [e3] at a3 m3 ⊢
    simp only at a3 ⊢
    have m4 := fun w1 x1 x2 => median_is blk off cap w.heap.size i1 j1 k1 s3 D d W w1 hH hd x1 a1.1 a2.1 a3.1 hz hcb x2 (by omega)
    exact pivot_large blk off cap a b l q i j k D.size _ _ i1 s1 j1 s2 k1 s3 d W w (Lib.hid hp) h50 (Lib.hid h1) (Lib.hid m1) (Lib.hid m2) (Lib.hid m3) (Lib.hid m4)
  · rw [if_neg h50]
    have m := fun w1 x1 x2 => median_is blk off cap w.heap.size i j k 0 D d W w1 hH hd x1 (by omega) (by omega) (by omega) hz hcb x2 (by omega)
    exact pivot_small blk off cap a b l q i j k D.size _ _ d W w (Lib.hid hp) (by omega) (by omega) (Lib.hid h1) (Lib.hid m)
end Go.Proofs.YtipigfgnpfhdbaaGreatDoor.Q
namespace Go.Proofs.YtipigfgnpfhdbaaGreatDoor.Q
open Go.RowKit U
open Go.Sort (putRow Holds swp ltInt breakPatterns xorNext xorNextN xorNext_toNat xorNextN_lt bitsLen two_pow_bitsLen_le)
set_option linter.unusedVariables false

theorem next_is (rb ro X : Nat) (hX : X < 18446744073709551616) (w : World) (hc : w.cell? ⟨rb, ro, none⟩ = some (.int .u64 X)) (hf : w.frozen? ⟨rb, ro, none⟩ = false) :
    Calls Tryz.prog 113 #[.pointer (some ⟨rb, ro, none⟩)] w fun e w' => e = .returned (.int .u64 (xorNextN X : Nat)) ∧ w' = (w.setCell ⟨rb, ro, none⟩ (.int .u64 (xorNextN X : Nat))).drewN 3 :=
  AnyF.xorshift_Next (ρ := G.sortLay_ren) { G.sortLay with } rb ro X hX w hc hf
theorem np2_is (n : Nat) (hn : n < 4611686018427387904) (w : World) : Calls Tryz.prog 112 #[.int .i64 n] w fun e w' => e = .returned (.int .u64 ((1 <<< bitsLen n : Nat) : Int)) ∧ w' = w :=
  AnyF.nextPowerOfTwo (ρ := G.sortLay_ren) { G.sortLay with } n hn w
/-- The generator's cell. -/
def Rng (cb X : Nat) (w : World) : Prop := w.cell? ⟨cb, 0, none⟩ = some (.int .u64 X) ∧ w.frozen? ⟨cb, 0, none⟩ = false
theorem Rng.set {cb s t : Nat} {w : World} (h : Rng cb s w) : Rng cb t (w.setCell ⟨cb, 0, none⟩ (.int .u64 t)) :=
  ⟨World.cell?_setCell_same _ _ _ h.1, by rw [Go.Sort.setCell_eq, Go.Sort.frozen?_mapBlock]; exact h.2⟩
theorem Rng.other {cb s blk i : Nat} {w : World} (h : Rng cb s w) (hne : cb ≠ blk) (v : Value) : Rng cb s (w.setCell ⟨blk, i, none⟩ v) :=
  ⟨(World.cell?_setCell_far w ⟨blk, i, none⟩ ⟨cb, 0, none⟩ v (fun e => hne e.symm)).trans h.1, by rw [Go.Sort.setCell_eq, Go.Sort.frozen?_mapBlock]; exact h.2⟩
theorem Rng.made (w : World) (t : TypeId) (X : Nat) : Rng w.heap.size X (w.alloc (.cells #[.int .u64 X] t)) := ⟨by unfold World.cell?; simp only; rw [heap_alloc_last]; rfl, by unfold World.frozen?; simp only; rw [heap_alloc_last]; rfl⟩
structure BNums (a b L q j i0 i2 : Nat) : Prop where
  p1 : wrap64 ((b : Int) - (a : Int)) = (L : Int)
  p2 : (L : Int).tdiv 4 = (q : Int)
  p3 : wrap64 (q : Int) = (q : Int)
  p4 : wrap64 ((q : Int) * 2) = (q : Int) * 2
  p5 : wrap64 ((a : Int) + (q : Int) * 2) = (j : Int)
  p6 : wrap64 ((j : Int) - 1) = (i0 : Int)
  p7 : wrap64 ((j : Int) + 1) = (i2 : Int)
  p8 : IntKind.u64.wrap (L : Int) = (L : Int)
theorem bnums {a b L q j i0 i2 : Nat} (h8 : 8 ≤ L) (hb : b < 1152921504606846976) (hl : b - a = L) (hq : L / 4 = q) (hj : a + q * 2 = j) (hi0 : j - 1 = i0) (hi2 : j + 1 = i2) : BNums a b L q j i0 i2 :=
  ⟨by rw [w64 (by omega) (by omega)]; omega, by rw [Int.tdiv_eq_ediv_of_nonneg (by omega)]; omega, w64 (by omega) (by omega), w64 (by omega) (by omega), by rw [w64 (by omega) (by omega)]; omega, by rw [w64 (by omega) (by omega)]; omega, by rw [w64 (by omega) (by omega)]; omega, by rw [IntKind.wrap_u64]; omega⟩
theorem b_o {O L o : Nat} (ho : (if O ≥ L then O - L else O) = o) (h : O < 2 * L) : o < L := by
  subst ho
  split <;> omega
theorem b_k {a o k L N : Nat} (ho : o < L) (hk : a + o = k) (h : a + L ≤ N) : k < N := by omega
theorem b_pk {a o k N : Nat} (hk : a + o = k) (hkN : k < N) (hN : N < 1152921504606846976) : wrap64 ((a : Int) + (o : Int)) = (k : Int) := by unfold wrap64; omega
theorem b_eo {O L o : Nat} (ho : (if O ≥ L then O - L else O) = o) (h : L ≤ O) (hO : O < 2 * L) (hL : L < 1152921504606846976) : wrap64 ((O : Int) - (L : Int)) = (o : Int) := by
  rw [if_pos h] at ho
  unfold wrap64
  omega
theorem b_no {O L o : Nat} (ho : (if O ≥ L then O - L else O) = o) (h : ¬ L ≤ O) : o = O := by rw [← ho, if_neg h]
theorem b_lO {O M L : Nat} (h : O ≤ M - 1) (h1 : 1 ≤ M) (h2 : M ≤ 2 * L) : O < 2 * L := by omega
theorem b_eM {M L : Nat} (h1 : 1 ≤ M) (h2 : M ≤ 2 * L) (hL : L < 1152921504606846976) : IntKind.u64.wrap ((M : Int) - 1) = ((M - 1 : Nat) : Int) := by rw [IntKind.wrap_u64]; omega
theorem b_M {M L : Nat} (h2 : M ≤ 2 * L) (hL : L < 1152921504606846976) : M - 1 < 18446744073709551616 := by omega
theorem b_e64 {O L : Nat} (h : O < 2 * L) (hL : L < 1152921504606846976) : wrap64 (O : Int) = (O : Int) := by unfold wrap64; omega
theorem b_ei {O L : Nat} (h : O < 2 * L) (hL : L < 1152921504606846976) : IntKind.i64.wrap (O : Int) = (O : Int) := by rw [IntKind.wrap_i64]; omega
theorem b_i {i i0 t i2 a L N : Nat} (hi : i = i0 + t) (ht : t < 3) (h1 : i0 + 3 ≤ a + L) (h2 : i2 = i0 + 2) (h3 : a + L ≤ N) : i ≤ i2 ∧ i < N := by omega
theorem b_n {i i0 t i2 : Nat} (hi : i = i0 + t) (ht : ¬ t < 3) (h2 : i2 = i0 + 2) : ¬ i ≤ i2 := by omega
theorem b_q {x y : Nat} (h : x ≤ y) : decide ((x : Int) ≤ (y : Int)) = true ∧ decide (x ≤ y) = true := by simp; omega
theorem b_r {x y : Nat} (h : ¬ x ≤ y) : decide ((x : Int) ≤ (y : Int)) = false ∧ decide (x ≤ y) = false := by simp; omega
theorem b_L {a L N : Nat} (h : a + L ≤ N) (hN : N < 1152921504606846976) : L < 1152921504606846976 := by omega
theorem b_next {i i0 t : Nat} (h : i = i0 + t) : i + 1 = i0 + (t + 1) := by omega
theorem b_m {t : Nat} (h : t < 3) : 3 - (t + 1) < 3 - t := by omega
theorem b_hw {i N : Nat} (h : i < N) (hN : N < 1152921504606846976) : wrap64 ((i : Int) + 1) = ((i + 1 : Nat) : Int) := by unfold wrap64; omega
def BrR (W : World) (blk off N cb a L M i0 : Nat) (R : Array Int) (g : Nat) (u : Value) (wr : World) : Prop := ∃ (t i : Nat) (r : UInt64) (dk : Array Int), u = .int .i64 i ∧ i = i0 + t ∧ t ≤ 3 ∧ g = 3 - t ∧ dk.size = N ∧ At W blk off dk wr ∧ Rng cb r.toNat wr ∧ bpRest a L M i0 (3 - t) t (r, dk) = R
set_option maxRecDepth 100000 in
set_option maxHeartbeats 4000000 in
theorem brk_go (blk off cap a b L q j i0 i2 M N cb : Nat) (d R : Array Int) (W w : World) (HP : Hid (BNums a b L q j i0 i2)) (h8 : 8 ≤ L) (hN2 : N < 1152921504606846976)
    (HQ : Hid (a + L ≤ N ∧ i0 + 3 ≤ a + L ∧ i2 = i0 + 2 ∧ 1 ≤ M ∧ M ≤ 2 * L ∧ cb ≠ blk ∧ W.heap.size ≤ cb ∧ cb = w.heap.size))
    (HFam : Hid (∀ (dk : Array Int) (w1 : World), dk.size = N → At W blk off dk w1 → (∀ t, t < N → w1.cell? ⟨blk, off + t, none⟩ = some (.int .i32 dk[t]!)) ∧ (∀ t, t < N → w1.frozen? ⟨blk, off + t, none⟩ = false)))
    (HSw : Hid (∀ (dk : Array Int) (w1 : World) (x y : Nat), dk.size = N → At W blk off dk w1 → x < N → y < N → At W blk off (swp dk x y) (((w1.drewN 0).setCell ⟨blk, off + x, none⟩ (.int .i32 dk[y]!)).setCell ⟨blk, off + y, none⟩ (.int .i32 dk[x]!)).drew))
    (H1 : Hid (At W blk off d (w.alloc (.cells #[.int .u64 L] 134)) ∧ Rng cb L (w.alloc (.cells #[.int .u64 L] 134)) ∧ d.size = N ∧ bpRest a L M i0 3 0 (UInt64.ofNat L, d) = R))
    (HNP : Hid (∀ w, Calls Tryz.prog 112 #[.int .i64 L] w fun e w' => e = .returned (.int .u64 (M : Int)) ∧ w' = w)) :
    Calls Tryz.prog 75 #[.slice (some ⟨blk, off, none⟩) N cap, .int .i64 a, .int .i64 b] w fun e w' => e = .returned (.tuple #[]) ∧ At W blk off R w' := by
  have q8 : decide ((8 : Int) ≤ (L : Int)) = true := by simp; omega
  have hL2 : L < 1152921504606846976 := b_L HQ.out.1 hN2
  obtain ⟨p1, p2, p3, p4, p5, p6, p7, p8⟩ := HP.out
  have HL0 := Lib.hid (show (UInt64.ofNat L).toNat = L by simp; omega)
  go_enter Tryz.func75, Tryz.ntmps75
  go_wp2_with (go_at_call 112; (with_reducible refine (HNP.out _).mono ?_); rintro e w' ⟨rfl, rfl⟩)
  rw [← HQ.out.2.2.2.2.2.2.2]
  simp only [p3, p4, p5, p6]
  go_loopg [9] 3 (fun g u wr => BrR W blk off N cb a L M i0 R g u wr)
  case atStart => exact ⟨0, i0, UInt64.ofNat L, d, rfl, rfl, by omega, rfl, H1.out.2.2.1, H1.out.1, by rw [HL0.out]; exact H1.out.2.1, H1.out.2.2.2⟩
  case round =>
    clear H1 HL0 HNP
    obtain ⟨t, i, r, dk, rfl, hi, ht, rfl, hs, hA, hR, hO⟩ := hrel
    have HI := Lib.hid (And.intro hi (And.intro ht hs))
    have HA := Lib.hid hA
    have HO := Lib.hid hO
    by_cases ht3 : t < 3
    · have hii := b_i hi ht3 HQ.out.2.1 HQ.out.2.2.1 HQ.out.1
      obtain ⟨qi, qi2⟩ := b_q hii.1
      have hiN : i < N := hii.2
      obtain ⟨R0, hRr⟩ : ∃ R0 : Nat, R0 = r.toNat := ⟨_, rfl⟩
      have lR : R0 < 18446744073709551616 := by rw [hRr]; exact r.toNat_lt
      obtain ⟨R1, hR1⟩ : ∃ R1 : Nat, R1 = xorNextN R0 := ⟨_, rfl⟩
      have lR1 : R1 < 18446744073709551616 := by rw [hR1]; exact xorNextN_lt R0 lR
      obtain ⟨O, hOo⟩ : ∃ O : Nat, O = R1 &&& (M - 1) := ⟨_, rfl⟩
      have lO : O ≤ M - 1 := by rw [hOo]; exact Nat.and_le_right
      have lO2 : O < 2 * L := b_lO lO HQ.out.2.2.2.1 HQ.out.2.2.2.2.1
      have eM := b_eM HQ.out.2.2.2.1 HQ.out.2.2.2.2.1 hL2
      have eO2 := b_ei lO2 hL2
      have eAnd : bits .and .u64 (R1 : Int) ((M - 1 : Nat) : Int) = (O : Int) := by
        rw [bits_and_u64_nat _ _ lR1 (b_M HQ.out.2.2.2.2.1 hL2), hOo]
      have eO := b_e64 lO2 hL2
      rw [← hRr] at hR
      have HR := Lib.hid hR
      have hN := next_is cb 0 R0 lR wr hR.1 hR.2
      rw [← hR1] at hN
      have HNx := Lib.hid hN
      have HN1 := Lib.hid (show R1 = (xorNext r).toNat ∧ O = (xorNext r).toNat &&& (M - 1) from by
        have e : R1 = (xorNext r).toNat := by rw [hR1, hRr, xorNext_toNat]
        exact ⟨e, by rw [hOo, e]⟩)
      have hA2 : At W blk off dk ((wr.setCell ⟨cb, 0, none⟩ (.int .u64 (R1 : Int))).drewN 3) := (hA.newset HQ.out.2.2.2.2.2.2.1 _).drew 3
      have hR2 : Rng cb R1 ((wr.setCell ⟨cb, 0, none⟩ (.int .u64 (R1 : Int))).drewN 3) := hR.set
      have HW2 := Lib.hid (And.intro hA2 hR2)
      have HLt := Lib.hid ht3
      have hw9 := b_hw hiN hN2
      clear hi ht hs hA hR hO hRr hR1 hOo lR lR1 lO hN hA2 hR2 ht3 hii
      obtain ⟨o, ho⟩ : ∃ o, (if O ≥ L then O - L else O) = o := ⟨_, rfl⟩
      have hoL : o < L := b_o ho lO2
      obtain ⟨k, hk⟩ : ∃ k, a + o = k := ⟨_, rfl⟩
      have hkN : k < N := b_k hoL hk HQ.out.1
      have pk := b_pk hk hkN hN2
      have HOk := Lib.hid (And.intro ho hk)
      by_cases hLO : L ≤ O
      · obtain ⟨qO, qO2⟩ := b_q hLO
        have eo := b_eo ho hLO lO2 hL2
        clear ho hk lO2 hoL hLO h8 hL2
        go_wp2_with (go_at_call 113; (with_reducible refine HNx.out.mono ?_); rintro e w3 ⟨rfl, hw3⟩; rw [← hw3] at HW2; clear hw3)
        obtain ⟨hcw, hfw⟩ := HFam.out dk _ HI.out.2.2 HW2.out.1
        have c1 := hcw i hiN
        have c2 := hcw k hkN
        have f1 := hfw i hiN
        have f2 := hfw k hkN
        clear hcw hfw
        have HA3 := Lib.hid (HSw.out dk _ i k HI.out.2.2 HW2.out.1 hiN hkN)
        obtain ⟨x, hx⟩ : ∃ x, dk[i]! = x := ⟨_, rfl⟩
        obtain ⟨y, hy⟩ : ∃ y, dk[k]! = y := ⟨_, rfl⟩
        rw [hx] at c1 HA3
        rw [hy] at c2 HA3
        clear hx hy
        obtain ⟨v3, hy3⟩ := cell?_setCell_some (w := w3) (p := ⟨blk, off + i, none⟩) (x := .int .i32 y) (q := ⟨blk, off + k, none⟩) c2
        go_wp2_with fail
        go_region
        clear c1 c2 f1 f2 hy3 p1 p2 p3 p4 p5 p6 p7 p8 eM eO eO2 eAnd pk qO qO2 qi qi2 hkN hiN hN2
        generalize hW4 : ((w3.setCell ⟨blk, off + i, none⟩ (.int .i32 y)).setCell ⟨blk, off + k, none⟩ (.int .i32 x)).drew = w4
        have HW4 := Lib.hid hW4
        clear hW4
        all_goals go_wp2_with fail
        go_roundg (3 - (t + 1))
        case measure => exact b_m HLt.out
        case rel =>
          refine ⟨t + 1, i + 1, xorNext r, swp dk i k, by first | rfl | rw [hw9], b_next HI.out.1, HLt.out, rfl, by rw [Go.Sort.size_swp]; exact HI.out.2.2, by rw [← HW4.out]; exact HA3.out, ?_, ?_⟩
          · rw [← HN1.out.1, ← HW4.out]
            exact (Rng.other (Rng.other HW2.out.2 HQ.out.2.2.2.2.2.1 _) HQ.out.2.2.2.2.2.1 _)
          · rw [← HO.out, bp_step a L M i0 t r dk o HLt.out (by rw [← HN1.out.2]; exact HOk.out.1), HOk.out.2, ← HI.out.1]
      · obtain ⟨qO, qO2⟩ := b_r hLO
        have eo : o = O := b_no ho hLO
        subst eo
        clear ho hk lO2 hoL hLO h8 hL2
        go_wp2_with (go_at_call 113; (with_reducible refine HNx.out.mono ?_); rintro e w3 ⟨rfl, hw3⟩; rw [← hw3] at HW2; clear hw3)
        obtain ⟨hcw, hfw⟩ := HFam.out dk _ HI.out.2.2 HW2.out.1
        have c1 := hcw i hiN
        have c2 := hcw k hkN
        have f1 := hfw i hiN
        have f2 := hfw k hkN
        clear hcw hfw
        have HA3 := Lib.hid (HSw.out dk _ i k HI.out.2.2 HW2.out.1 hiN hkN)
        obtain ⟨x, hx⟩ : ∃ x, dk[i]! = x := ⟨_, rfl⟩
        obtain ⟨y, hy⟩ : ∃ y, dk[k]! = y := ⟨_, rfl⟩
        rw [hx] at c1 HA3
        rw [hy] at c2 HA3
        clear hx hy
        obtain ⟨v3, hy3⟩ := cell?_setCell_some (w := w3) (p := ⟨blk, off + i, none⟩) (x := .int .i32 y) (q := ⟨blk, off + k, none⟩) c2
        go_wp2_with fail
        go_region
        clear c1 c2 f1 f2 hy3 p1 p2 p3 p4 p5 p6 p7 p8 eM eO eO2 eAnd pk qO qO2 qi qi2 hkN hiN hN2
        generalize hW4 : ((w3.setCell ⟨blk, off + i, none⟩ (.int .i32 y)).setCell ⟨blk, off + k, none⟩ (.int .i32 x)).drew = w4
        have HW4 := Lib.hid hW4
        clear hW4
        all_goals go_wp2_with fail
        go_roundg (3 - (t + 1))
        case measure => exact b_m HLt.out
        case rel =>
          refine ⟨t + 1, i + 1, xorNext r, swp dk i k, by first | rfl | rw [hw9], b_next HI.out.1, HLt.out, rfl, by rw [Go.Sort.size_swp]; exact HI.out.2.2, by rw [← HW4.out]; exact HA3.out, ?_, ?_⟩
          · rw [← HN1.out.1, ← HW4.out]
            exact (Rng.other (Rng.other HW2.out.2 HQ.out.2.2.2.2.2.1 _) HQ.out.2.2.2.2.2.1 _)
          · rw [← HO.out, bp_step a L M i0 t r dk o HLt.out (by rw [← HN1.out.2]; exact HOk.out.1), HOk.out.2, ← HI.out.1]
    · obtain ⟨qi, qi2⟩ := b_r (b_n hi ht3 HQ.out.2.2.1)
      obtain rfl : t = 3 := by omega
      have Hr := Lib.hid (show dk = R from hO)
      clear hi ht hs hA hR hO ht3
      go_wp2
      go_end0
      exact ⟨rfl, by rw [← Hr.out]; exact HA.out⟩
set_option maxRecDepth 100000 in
set_option maxHeartbeats 1000000 in
theorem brk_no (blk off cap a b L N : Nat) (d : Array Int) (W w : World) (p1 : wrap64 ((b : Int) - (a : Int)) = (L : Int)) (h8 : L < 8) (HA : Hid (At W blk off d w)) :
    Calls Tryz.prog 75 #[.slice (some ⟨blk, off, none⟩) N cap, .int .i64 a, .int .i64 b] w fun e w' => e = .returned (.tuple #[]) ∧ At W blk off d w' := by
  have q8 : decide ((8 : Int) ≤ (L : Int)) = false := by simp; omega
  clear h8
  go_enter Tryz.func75, Tryz.ntmps75
  go_wp2
  go_end0
  exact ⟨rfl, HA.out⟩
theorem brk_is (blk off cap a b : Nat) (D d : Array Int) (W w : World) (hH : Holds E W blk off D) (hd : d.size = D.size) (hA : At W blk off d w) (hab : a ≤ b) (hb : b ≤ D.size) (hsz : D.size < 1152921504606846976) (hblk : blk < W.heap.size) :
    Calls Tryz.prog 75 #[.slice (some ⟨blk, off, none⟩) D.size cap, .int .i64 a, .int .i64 b] w fun e w' => e = .returned (.tuple #[]) ∧ At W blk off (breakPatterns d a b) w' := by
  obtain ⟨L, hL⟩ : ∃ L, b - a = L := ⟨_, rfl⟩
  by_cases h8 : 8 ≤ L
  · obtain ⟨q, hq⟩ : ∃ q, L / 4 = q := ⟨_, rfl⟩
    obtain ⟨j, hj⟩ : ∃ j, a + q * 2 = j := ⟨_, rfl⟩
    obtain ⟨i0, hi0⟩ : ∃ i, j - 1 = i := ⟨_, rfl⟩
    obtain ⟨i2, hi2⟩ : ∃ i, j + 1 = i := ⟨_, rfl⟩
    obtain ⟨M, hM⟩ : ∃ M : Nat, M = 1 <<< bitsLen L := ⟨_, rfl⟩
    have hM1 : 1 ≤ M := by rw [hM, Nat.one_shiftLeft]; exact Nat.two_pow_pos _
    have hM2 : M ≤ 2 * L := by rw [hM, Nat.one_shiftLeft]; exact two_pow_bitsLen_le (by omega)
    have hR : breakPatterns d a b = bpRest a L M i0 3 0 (UInt64.ofNat L, d) := by
      have hbe : b = a + L := by omega
      rw [hbe, breakPatterns_eq d a L h8, hM, ← hi0, ← hj, ← hq]
    have hcb := hA.size
    refine brk_go blk off cap a b L q j i0 i2 M D.size w.heap.size d _ W w (Lib.hid (bnums h8 (by omega) hL hq hj hi0 hi2)) h8 hsz (Lib.hid ⟨by omega, by omega, by omega, hM1, hM2, by omega, hcb, rfl⟩)
      (Lib.hid fun dk w1 hs h => ⟨fun t ht => h.cell hH hs ht, fun t ht => h.free hH ht⟩) (Lib.hid fun dk w1 x y hs h hx hy => (h.swap hblk 0 (by omega) (by omega)).drew1)
      (Lib.hid ⟨hA.alloc _, Rng.made w _ L, hd, hR.symm⟩) (Lib.hid (by rw [hM]; exact fun w => np2_is L (by omega) w))
  · have hv : breakPatterns d a b = d := by
      unfold breakPatterns
      simp only [hL]
      rw [if_neg h8]
    rw [hv]
    exact brk_no blk off cap a b L D.size d W w (by rw [w64 (by omega) (by omega)]; omega) (by omega) (Lib.hid hA)
end Go.Proofs.YtipigfgnpfhdbaaGreatDoor.Q
