/- What slices.swapRangeCmpFunc makes of a row: two runs as long change places. -/
import Derived.Test.YtfgpgmfajjakpaaDoorRow0
namespace Go.Proofs.YtfgpgmfajjakpaaDoor.U
open Go.RowKit
set_option linter.unusedVariables false

def SwRel (base : Nat) (w0 : World) (g off : Nat) (p x m y q : List Int) (n : Nat) (i : Value) (w : World) : Prop :=
  ∃ k : Nat, i = .int .i64 k ∧ k ≤ n ∧ Hid (∃ x1 x2 y1 y2, x = x1 ++ x2 ∧ y = y1 ++ y2 ∧ x1.length = k ∧ y1.length = k ∧ In base w0 g off (p ++ (y1 ++ (x2 ++ (m ++ (x1 ++ (y2 ++ q)))))) w)
/-- The row as a change leaves it. -/
def Done (base : Nat) (w0 : World) (g off : Nat) (l : List Int) (e : Ending) (w' : World) : Prop := e = .returned (.tuple #[]) ∧ In base w0 g off l w'

set_option maxRecDepth 1000000 in
set_option maxHeartbeats 8000000 in
theorem swapRange_is (base g off cap a b n N : Nat) (p x m y q : List Int) (w0 w : World) (F : Value) (hI : In base w0 g off (p ++ (x ++ (m ++ (y ++ q)))) w) (hp : p.length = a) (hb : a + x.length + m.length = b) (hx : x.length = n) (hy : y.length = n)
    (hN : (p ++ (x ++ (m ++ (y ++ q)))).length = N) (hs : N ≤ 1099511627776) :
    Calls Tryd.prog 63 #[.slice (some ⟨g, off, none⟩) N cap, .int .i64 a, .int .i64 b, .int .i64 n, F] w (Done base w0 g off (p ++ (y ++ (m ++ (x ++ q))))) := by
  have HI := Lib.hid hI
  have HP := Lib.hid hp
  have HB := Lib.hid hb
  have HX := Lib.hid hx
  have HY := Lib.hid hy
  have hN' : a + n + m.length + n + q.length = N := by simp at hN; omega
  have HN := Lib.hid hN'
  clear hI hp hb hx hy hN hN'
  go_enter Tryd.func63, Tryd.ntmps63
  go_wp2
  go_loopw [10] (fun i wr => SwRel base w0 g off p x m y q n i wr) (fun i _ => n - (intOf i).toNat)
  case atStart => exact ⟨0, rfl, Nat.zero_le _, Lib.hid ⟨[], x, [], y, rfl, rfl, rfl, rfl, HI.out⟩⟩
  case round =>
    clear HI
    obtain ⟨k, rfl, hk, HR⟩ := hrel
    by_cases hlt : k < n
    · obtain ⟨x1, x2, y1, y2, e1, e2, l1, l2, hin⟩ := HR.out
      have hxl := HX.out
      have hyl := HY.out
      have hbb := HB.out
      have hNN := HN.out
      have hpp := HP.out
      rw [e1, List.length_append] at hxl
      rw [e2, List.length_append] at hyl
      obtain ⟨u, x3, rfl⟩ : ∃ u t, x2 = u :: t := by
        cases x2 with
        | nil => simp at hxl; omega
        | cons u t => exact ⟨u, t, rfl⟩
      obtain ⟨v, y3, rfl⟩ : ∃ u t, y2 = u :: t := by
        cases y2 with
        | nil => simp at hyl; omega
        | cons u t => exact ⟨u, t, rfl⟩
      have hxl' := HX.out
      simp only [List.length_cons] at hxl hyl
      obtain ⟨i1, hi1⟩ : ∃ i1, a + k = i1 := ⟨_, rfl⟩
      obtain ⟨j1, hj1⟩ : ∃ j1, b + k = j1 := ⟨_, rfl⟩
      have hA : (p ++ y1).length = i1 := by rw [List.length_append]; omega
      have hJ : i1 + 1 + (x3 ++ (m ++ x1)).length = j1 := by simp only [List.length_append]; omega
      have eD : p ++ (y1 ++ (u :: x3 ++ (m ++ (x1 ++ (v :: y3 ++ q))))) = (p ++ y1) ++ u :: ((x3 ++ (m ++ x1)) ++ v :: (y3 ++ q)) := by simp
      rw [eD] at hin
      have g1 := at_mid (p ++ y1) u ((x3 ++ (m ++ x1)) ++ v :: (y3 ++ q)) hA
      have g2 := at_mid2 (p ++ y1) u (x3 ++ (m ++ x1)) v (y3 ++ q) hA hJ
      have hne : i1 ≠ j1 := by omega
      have hsw := hin.swap g1 g2 hne (swap_mid (p ++ y1) u v (x3 ++ (m ++ x1)) (y3 ++ q) hA hJ)
      have S3 : Hid (In base w0 g off (p ++ ((y1 ++ [v]) ++ (x3 ++ (m ++ ((x1 ++ [u]) ++ (y3 ++ q)))))) ((wr.setCell ⟨g, off + i1, none⟩ (.int .i32 v)).setCell ⟨g, off + j1, none⟩ (.int .i32 u)).drew) := Lib.hid (by
        have eE : p ++ ((y1 ++ [v]) ++ (x3 ++ (m ++ ((x1 ++ [u]) ++ (y3 ++ q))))) = (p ++ y1) ++ v :: ((x3 ++ (m ++ x1)) ++ u :: (y3 ++ q)) := by simp
        rw [eE]; exact hsw)
      have c1 := hin.cell g1
      have c2 := hin.cell g2
      have f1 := hin.free g1
      have f2 := hin.free g2
      have c3 := hin.c2 g2 hne (.int .i32 v)
      have HE : Hid (x = (x1 ++ [u]) ++ x3 ∧ y = (y1 ++ [v]) ++ y3 ∧ (x1 ++ [u]).length = k + 1 ∧ (y1 ++ [v]).length = k + 1) := Lib.hid ⟨by rw [e1]; simp, by rw [e2]; simp, by simp [l1], by simp [l2]⟩
      have ea : ((a : Int) + (k : Int)).toNat = i1 := by omega
      have pa : (0 : Int) ≤ (a : Int) + (k : Int) := by omega
      have ba : (a : Int) + (k : Int) < (N : Int) := by omega
      have ra : IntKind.i64.wrap ((a : Int) + (k : Int)) = (a : Int) + (k : Int) := by rw [IntKind.wrap_i64]; omega
      have ec : ((b : Int) + (k : Int)).toNat = j1 := by omega
      have pc : (0 : Int) ≤ (b : Int) + (k : Int) := by omega
      have bc : (b : Int) + (k : Int) < (N : Int) := by omega
      have rc : IntKind.i64.wrap ((b : Int) + (k : Int)) = (b : Int) + (k : Int) := by rw [IntKind.wrap_i64]; omega
      have hkn : (k : Int) < (n : Int) := by omega
      clear hsw hin g1 g2 hA hJ eD e1 e2 l1 l2 hxl hyl hbb hNN hpp hxl' HR hi1 hj1 hne
      go_wp2_with fail
      go_region
      clear c1 c2 c3 f1 f2
      generalize ((wr.setCell ⟨g, off + i1, none⟩ (.int .i32 v)).setCell ⟨g, off + j1, none⟩ (.int .i32 u)).drew = w3 at S3 ⊢
      clear ea ec
      go_wp2
      go_roundw
      case rel => exact ⟨k + 1, by go_num, by omega, Lib.hid ⟨_, _, _, _, HE.out.1, HE.out.2.1, HE.out.2.2.1, HE.out.2.2.2, S3.out⟩⟩
      case measure => simp [intOf]; omega
    · obtain rfl : k = n := by omega
      have hfin : In base w0 g off (p ++ (y ++ (m ++ (x ++ q)))) wr := by
        obtain ⟨x1, x2, y1, y2, e1, e2, l1, l2, hin⟩ := HR.out
        have hxl := HX.out
        have hyl := HY.out
        rw [e1, List.length_append] at hxl
        rw [e2, List.length_append] at hyl
        obtain rfl : x2 = [] := List.eq_nil_of_length_eq_zero (by omega)
        obtain rfl : y2 = [] := List.eq_nil_of_length_eq_zero (by omega)
        rw [e1, e2]
        simpa using hin
      have HF := Lib.hid hfin
      clear hfin HR
      go_wp2
      go_end0
      exact ⟨rfl, HF.out⟩
end Go.Proofs.YtfgpgmfajjakpaaDoor.U
