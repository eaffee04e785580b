/- What the laws' walks share: every text has its order; two lists compared. -/
import Derived.Test.YtfgpgmfajjakpaaDoorNfc
namespace Go.Proofs.YtfgpgmfajjakpaaDoor.U
open Go.RowKit
set_option linter.unusedVariables false

/-- Every text has its order. -/
theorem ord_ex (l : List Int) : ∃ L, Ord l L := by
  generalize hn : far l = n
  induction n using Nat.strongRecOn generalizing l with
  | _ n ih =>
    by_cases h : Srt l
    · exact ⟨l, ord_self h⟩
    · unfold Srt at h
      simp only [Classical.not_forall] at h
      obtain ⟨i, a, b, ha, hb, hp, hc⟩ := h
      have hi : i + 1 < l.length := (List.getElem?_eq_some_iff.1 hb).1
      have e : l = l.take i ++ a :: b :: l.drop (i + 2) := by
        have h1 : l.drop i = a :: l.drop (i + 1) := by
          rw [List.drop_eq_getElem_cons (by omega)]
          congr 1
          exact (List.getElem?_eq_some_iff.1 ha).2
        have h2 : l.drop (i + 1) = b :: l.drop (i + 2) := by
          rw [List.drop_eq_getElem_cons hi]
          congr 1
          exact (List.getElem?_eq_some_iff.1 hb).2
        rw [← h2, ← h1, List.take_append_drop]
      have hf := far_swap (a := a) (b := b) (by omega) (l.take i) (l.drop (i + 2))
      rw [← e] at hf
      obtain ⟨L, hL⟩ := ih _ (by omega) (l.take i ++ b :: a :: l.drop (i + 2)) rfl
      refine ⟨L, ?_⟩
      rw [e]
      exact hL.of_st (St.swap _ _ (by omega) (by omega) (by omega)).symm
theorem cut_pair {l : List Int} {k : Nat} {u v : Int} (hu : l[k]? = some u) (hv : l[k + 1]? = some v) : l = l.take k ++ u :: ([] ++ v :: l.drop (k + 2)) := by
  have hi : k + 1 < l.length := (List.getElem?_eq_some_iff.1 hv).1
  have h1 : l.drop k = u :: l.drop (k + 1) := by
    rw [List.drop_eq_getElem_cons (by omega)]
    congr 1
    exact (List.getElem?_eq_some_iff.1 hu).2
  have h2 : l.drop (k + 1) = v :: l.drop (k + 2) := by
    rw [List.drop_eq_getElem_cons hi]
    congr 1
    exact (List.getElem?_eq_some_iff.1 hv).2
  rw [List.nil_append, ← h2, ← h1, List.take_append_drop]
theorem runes_b (A B : Option Addr) (n m c d : Nat) (xs ys : List Int) (B1 B2 : Nat) (b : Bool) (w : World) (hA : Rd w B1 .i32 A xs) (hB : Rd w B2 .i32 B ys) (hn : xs.length = n) (hm : ys.length = m) (hn' : n ≤ 1099511627776) (hb : decide (xs = ys) = b) :
    Calls Tryd.prog 9 #[.slice A n c, .slice B m d] w (BoolIs w b) :=
  (runes_is A B n m c d xs ys B1 B2 b w hA hB hn hm hn' hb).mono fun e w' h => ⟨h.1, by obtain ⟨q, rfl⟩ := h.2; exact (Bel.refl _).drewN q⟩
end Go.Proofs.YtfgpgmfajjakpaaDoor.U
