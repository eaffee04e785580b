/- What nfd.NFD and nfd.Is answer, and the law's own 'answers'. -/
import Derived.Test.YtfgpgmfajjakpaaDoorAdd
import Derived.Test.YtfgpgmfajjakpaaDoorEq
namespace Go.Proofs.YtfgpgmfajjakpaaDoor.U
open Go.RowKit
set_option linter.unusedVariables false

def NfdRel (w : World) (B : Nat) (l : List Int) (n : Nat) (i : Value) (w' : World) : Prop :=
  ∃ k : Nat, i = .int .i64 k ∧ k ≤ n ∧ Hid ((∃ v, Spt B w' v (apL (l.take k))) ∧ Below B w w')

set_option maxHeartbeats 2000000 in
theorem nfd_is (A : Option Addr) (n c C : Nat) (l : List Int) (w : World) (hr : Rd w C .i32 A l) (hl : l.length = n) (hn : n ≤ 1099511627776) (hn2 : (apL l).length ≤ 1099511627776) (hS : Sp w) :
    Calls Tryd.prog 8 #[.slice A n c] w (OrdPost w (apL l)) := by
  have HR := Lib.hid hr
  have HL := Lib.hid hl
  have HS := Lib.hid hS
  have HN2 := Lib.hid hn2
  obtain ⟨B, hB⟩ : ∃ B, w.heap.size = B := ⟨_, rfl⟩
  have HB := Lib.hid hB
  have H0 : Hid ((∃ v, Spt B (w.alloc (.cells #[.slice none 0 0] 38)) v (apL (l.take 0))) ∧ Below B w (w.alloc (.cells #[.slice none 0 0] 38))) := Lib.hid (by
    subst hB
    exact ⟨⟨_, heap_alloc_new w _, Own.nil _ _ _ _⟩, (Bel.refl w).alloc _⟩)
  clear hr hl hS hn2
  go_enter Tryd.func8, Tryd.ntmps8
  go_wp2
  clear hB
  go_loopw [8] (fun i wr => NfdRel w B l n i wr) (fun i _ => n - (intOf i).toNat)
  case atStart => exact ⟨0, rfl, Nat.zero_le _, H0⟩
  case round =>
    clear H0
    obtain ⟨k, rfl, hk, HK⟩ := hrel
    by_cases hlt : k < n
    · obtain ⟨p, hp⟩ : ∃ p, l[k]? = some p := ⟨l[k]'(by rw [HL.out]; exact hlt), by simp⟩
      obtain ⟨⟨v, hs⟩, hbw⟩ := HK.out
      have hbw' : Bel w wr := by unfold Bel; rw [HB.out]; exact hbw
      obtain ⟨g, off, rfl, _, hc⟩ := (HR.out.bel hbw') k p hp
      have hap : apL (l.take (k + 1)) = apL (l.take k) ++ ap p := by rw [List.take_add_one, hp, Option.toList_some, apL_append, apL_cons, apL_nil, List.append_nil]
      have hbnd : (apL (l.take k)).length + (ap p).length ≤ 1099511627776 := by
        have h1 : apL l = apL (l.take (k + 1)) ++ apL (l.drop (k + 1)) := by rw [← apL_append, List.take_append_drop]
        have h2 := congrArg List.length h1
        have h3 := HN2.out
        rw [hap] at h2
        simp only [List.length_append] at h2 ⊢
        omega
      have HC := Lib.hid (add_is B p _ v wr hs hbnd)
      have HV : Hid (∀ w' v', Spt B w' v' (apL (l.take k) ++ ap p) → Fr B wr v w' v' → NfdRel w B l n (.int .i64 ((k : Int) + 1)) w') := Lib.hid fun w' v' h1 h2 =>
        ⟨k + 1, by go_num, by omega, Lib.hid ⟨⟨v', by rw [hap]; exact h1⟩, hbw.trans (h2.below hs)⟩⟩
      have q1 : (0 : Int) ≤ (k : Int) := by omega
      have q2 : (k : Int) < (n : Int) := by omega
      clear hp hs hbw hbw' hap hbnd HK
      go_wp2_with fail
      with_reducible refine HC.out.mono ?_
      rintro e w2 ⟨rfl, v', h1, h2⟩
      have HW := Lib.hid (HV.out w2 v' h1 h2)
      clear h1 h2 HC HV
      go_wp2
      go_roundw
      case rel => exact HW.out
      case measure => simp [intOf]; omega
    · obtain ⟨⟨v, hs⟩, hbw⟩ := HK.out
      rw [List.take_of_length_le (by rw [HL.out]; omega)] at hs
      have hbw' : Bel w wr := by unfold Bel; rw [HB.out]; exact hbw
      obtain ⟨m, hm⟩ : ∃ m, (apL l).length = m := ⟨_, rfl⟩
      obtain ⟨A', cap, rfl, _, hrd, hnil⟩ := hs.2.rdn hm
      have c1 := hs.cell
      have HC := Lib.hid (order_is A' m cap _ (apL l) wr hrd hm hnil (by have := HN2.out; omega) (HS.out.by hbw'))
      have HW := Lib.hid hbw'
      have q2 : ¬ (k : Int) < (n : Int) := by omega
      clear hs hbw hbw' hm hrd hnil HK
      go_wp2_with fail
      with_reducible refine HC.out.mono ?_
      rintro e w2 ⟨v2, l2, rfl, h1, h2, h3⟩
      have HF : Hid (Ord (apL l) l2 ∧ Own w2 w.heap.size 21 .i32 v2 l2 ∧ Bel w w2) := Lib.hid ⟨h1, h2.less HW.out.size, HW.out.trans h3⟩
      clear h1 h2 h3 HC
      go_wp2
      go_ret
      exact ⟨_, l2, rfl, HF.out.1, HF.out.2.1, HF.out.2.2⟩

/-- The list is known. -/
def OwnIs (w : World) (L : List Int) (n : Nat) (e : Ending) (w' : World) : Prop := ∃ A cap, e = .returned (.slice A n cap) ∧ n ≤ cap ∧ (A = none → cap = 0) ∧ Hid (Rd w' w'.heap.size .i32 A L) ∧ Hid (Own w' w.heap.size 21 .i32 (.slice A n cap) L) ∧ Bel w w'
theorem OrdPost.is {w w' : World} {l L : List Int} {n : Nat} {e : Ending} (h : OrdPost w l e w') (hO : Ord l L) (hn : L.length = n) : OwnIs w L n e w' := by
  obtain ⟨v, l', rfl, h1, h2, h3⟩ := h
  obtain rfl := ord_one h1 hO
  obtain ⟨A, cap, rfl, k1, k2, k3⟩ := h2.rdn hn
  exact ⟨A, cap, rfl, k1, k3, Lib.hid k2, Lib.hid h2, h3⟩
theorem nfd_as (A : Option Addr) (n c C : Nat) (l L : List Int) (m : Nat) (w : World) (hr : Rd w C .i32 A l) (hl : l.length = n) (hn : n ≤ 10000000000) (hS : Sp w) (hO : Ord (apL l) L) (hm : L.length = m) :
    Calls Tryd.prog 8 #[.slice A n c] w (OwnIs w L m) :=
  (nfd_is A n c C l w hr hl (by omega) (by have := apL_max l; omega) hS).mono fun e w' h => h.is hO hm

theorem ends_101 : ends.contains 101 = true := by kernel_rfl
theorem secs_769 : secs.contains 769 = true := by kernel_rfl
theorem ap_233 : apL [233] = [101, 769] := by
  have h1 : pts 233 = [101, 769] := by
    rcases spl_pts spl_233 with ⟨h, _⟩ | ⟨_, h⟩ | ⟨h, _⟩
    · omega
    · exact h
    · omega
  have h2 : pts 101 = [] := sec_free (List.mem_append_right _ (by simpa using ends_101))
  have h3 : pts 769 = [] := sec_free (List.mem_append_left _ (by simpa using secs_769))
  rw [apL_cons, apL_nil, List.append_nil, ap_split (by rw [h1]; simp), h1]
  simp [ap_free h2, ap_free h3]
theorem ord_233 : Ord (apL [233]) [101, 769] := by
  rw [ap_233]
  refine ord_self fun i a b ha hb hp => ?_
  have hi := (List.getElem?_eq_some_iff.1 hb).1
  simp at hi
  obtain rfl : i = 0 := by omega
  simp at ha hb
  subst ha hb
  have : cls 101 = 0 := by kernel_rfl
  omega

end Go.Proofs.YtfgpgmfajjakpaaDoor.U
