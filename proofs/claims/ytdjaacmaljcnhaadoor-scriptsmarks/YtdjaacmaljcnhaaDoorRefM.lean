/- The reference's spans of marks, and the class that they tell; of the chapter's list: the upper numbers are marks, the lower ones are none. Plain mathematics. -/
import Derived.Test.YtdjaacmaljcnhaaDoorMath
namespace Go.Proofs.YtdjaacmaljcnhaaDoor.U
set_option linter.unusedVariables false

abbrev Row := Int × Int × Int × Int
def rtab : List Row := [(768, 788, 230, 0), (829, 836, 230, 0), (838, 838, 230, 0), (842, 844, 230, 0), (848, 850, 230, 0), (855, 855, 230, 0), (859, 859, 230, 0), (867, 879, 230, 0), (65056, 65059, 230, 0), (789, 789, 232, 0), (794, 794, 232, 0), (795, 795, 216, 0), (801, 802, 202, 0), (807, 808, 202, 0), (790, 793, 220, 0), (796, 800, 220, 0), (803, 806, 220, 0), (809, 819, 220, 0), (825, 828, 220, 0), (839, 841, 220, 0), (845, 846, 220, 0), (851, 854, 220, 0), (820, 824, 1, 0), (837, 837, 240, 0), (860, 860, 233, 0), (863, 863, 233, 0), (866, 866, 233, 0), (861, 862, 234, 0), (864, 865, 234, 0), (1456, 1464, 10, 1), (1465, 1466, 19, 0), (1467, 1467, 20, 0), (1468, 1468, 21, 0), (1469, 1469, 22, 0), (1471, 1471, 23, 0), (1473, 1473, 24, 0), (1474, 1474, 25, 0), (64286, 64286, 26, 0), (1611, 1618, 27, 1), (1619, 1620, 230, 0), (1621, 1622, 220, 0), (1648, 1648, 35, 0), (12441, 12442, 8, 0)]
def inB (s : Row) (r : Int) : Bool := decide (s.1 ≤ r) && decide (r ≤ s.2.1)
def cval (s : Row) (r : Int) : Int := s.2.2.1 + (r - s.1) * s.2.2.2
def lookR (t : List Row) (r : Int) : Int := match t.find? (inB · r) with | some s => cval s r | none => 0
def cls (r : Int) : Int := lookR rtab r
theorem inB_true {s : Row} {r : Int} : inB s r = true ↔ s.1 ≤ r ∧ r ≤ s.2.1 := by simp [inB]
theorem inB_false {s : Row} {r : Int} : inB s r = false ↔ ¬ (s.1 ≤ r ∧ r ≤ s.2.1) := by rw [← inB_true]; simp
theorem lookR_none {t : List Row} {r : Int} (h : ∀ s ∈ t, inB s r = false) : lookR t r = 0 := by
  unfold lookR
  rw [List.find?_eq_none.2 (fun s hs => by simp [h s hs])]
theorem lookR_at {t : List Row} {r : Int} {i : Nat} {s : Row} (hi : t[i]? = some s) (hb : ∀ j u, j < i → t[j]? = some u → inB u r = false) (hs : inB s r = true) : lookR t r = cval s r := by
  have : t.find? (inB · r) = some s := by
    rw [List.find?_eq_some_iff_getElem]
    obtain ⟨hlt, he⟩ := List.getElem?_eq_some_iff.1 hi
    refine ⟨hs, i, hlt, he, fun j hj => ?_⟩
    have := hb j t[j] hj (by simp)
    simp [this]
  unfold lookR; rw [this]
theorem rtab_bounds : rtab.all (fun s => decide (768 ≤ s.1) && decide (s.1 ≤ s.2.1) && decide (s.2.1 ≤ 65059) && decide (1 ≤ s.2.2.1) && decide (s.2.2.1 ≤ 240) && (s.2.2.2 == 0 || s.2.2.2 == 1)) = true := by kernel_rfl
theorem rtab_row {i : Nat} {s : Row} (h : rtab[i]? = some s) : 768 ≤ s.1 ∧ s.1 ≤ s.2.1 ∧ s.2.1 ≤ 65059 ∧ 1 ≤ s.2.2.1 ∧ s.2.2.1 ≤ 240 ∧ (s.2.2.2 = 0 ∨ s.2.2.2 = 1) := by
  have := List.all_eq_true.1 rtab_bounds s (List.mem_of_getElem? h)
  simpa [and_assoc] using this
theorem rtab_len : rtab.length = 43 := rfl
theorem rtab_at {i : Nat} (h : i < 43) : ∃ s, rtab[i]? = some s := ⟨rtab[i]'(by rw [rtab_len]; exact h), by simp⟩

theorem tabA_marks : tabA.all (fun p => decide (0 < cls p.2) == decide (96 ≤ p.1)) = true := by kernel_rfl
theorem look_marks {n r : Int} (h : look tabA n = (r, true)) : decide (0 < cls r) = decide (96 ≤ n) := eq_of_beq (List.all_eq_true.1 tabA_marks _ (look_yes h))
/-- Which numbers of a set are marks. -/
def wantS (s : Nat) (k : Int) : Bool := match s with
  | 0 => decide (k ≤ 39)
  | 1 => decide (64 ≤ k) && decide (k ≤ 78)
  | 2 => decide (107 ≤ k) && decide (k ≤ 114) || k == 116
  | _ => false
theorem marks3 : tab3.all (fun p => decide (0 < cls p.2) == wantS 0 p.1) = true := by kernel_rfl
theorem marks4 : tab4.all (fun p => decide (0 < cls p.2) == wantS 1 p.1) = true := by kernel_rfl
theorem marks5 : tab5.all (fun p => decide (0 < cls p.2) == wantS 2 p.1) = true := by kernel_rfl
theorem marks6 : tab6.all (fun p => decide (0 < cls p.2) == wantS 3 p.1) = true := by kernel_rfl
theorem marks7 : tab7.all (fun p => decide (0 < cls p.2) == wantS 4 p.1) = true := by kernel_rfl
theorem marks8 : tab8.all (fun p => decide (0 < cls p.2) == wantS 5 p.1) = true := by kernel_rfl
theorem marksS {s : Nat} (hs : s < 6) : (tabS s).all (fun p => decide (0 < cls p.2) == wantS s p.1) = true := by
  obtain rfl | rfl | rfl | rfl | rfl | rfl : s = 0 ∨ s = 1 ∨ s = 2 ∨ s = 3 ∨ s = 4 ∨ s = 5 := by omega
  · exact marks3
  · exact marks4
  · exact marks5
  · exact marks6
  · exact marks7
  · exact marks8
theorem look_marksS {s : Nat} (hs : s < 6) {n r : Int} (h : look (tabS s) n = (r, true)) : decide (0 < cls r) = wantS s n := eq_of_beq (List.all_eq_true.1 (marksS hs) _ (look_yes h))
theorem cls_low (r : Int) : 0 ≤ cls r ∧ cls r ≤ 70000 := by
  unfold cls lookR
  split
  · rename_i s hs
    have h1 := List.mem_of_find?_eq_some hs
    have h3 : inB s r = true := List.find?_some (p := fun t => inB t r) hs
    have h2 := inB_true.1 h3
    obtain ⟨i, hi⟩ := List.getElem?_of_mem h1
    obtain ⟨b0, b1, b2, b3, b4, b5⟩ := rtab_row hi
    unfold cval
    rcases b5 with e | e <;> rw [e] <;> omega
  · omega
end Go.Proofs.YtdjaacmaljcnhaaDoor.U
