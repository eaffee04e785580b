/- What a run's 'codes' tells its caller: code by code, each with its character, in order, until it is told to stop. No condition. -/
import Derived.RangeFuncNested
import Derived.RangeFuncBound
import Derived.RangeFuncCalls
import Derived.RangeFuncLeaves
import Derived.Shelf.Abstract
import Derived.Shelf.RegionOpen
import Derived.OwnWalkIn
import Derived.TacticsInMore
import Derived.LoopNIn
import Derived.LoopIn
import Derived.Lib.OthersKept
import Derived.Test.YtkhcodmcddeakaaFor
namespace Go.Proofs.Ytkhcodmcddeakaa.U
open Go.RowKit Go.Shelf
set_option linter.unusedVariables false

/-- A string's iterators stand as they stood. -/
def KeptI (W W' : World) : Prop := W.heap.size ≤ W'.heap.size ∧ ∀ (j : Nat) (s : ByteArray) (p : Nat), W.heap[j]? = some (.stringIter s p) → W'.heap[j]? = some (.stringIter s p)

theorem nx_range {c : Int} {p q : Nat} (h0 : 0 ≤ c) (h1 : c ≤ 16777216 + 163 * (p : Int)) (hq : p + 1 ≤ q) : 0 ≤ nx c ∧ nx c ≤ 16777216 + 163 * (q : Int) := by
  unfold nx
  split <;> omega

def RelI (J : List (Int × Int) → World → Prop) (tb : List (Int × Int)) (T : ByteArray) (G : Nat) (i : Value) (wr : World) : Prop :=
  ∃ (pre : List (Int × Int)) (pos fuel : Nat) (c : Int), i = .int .i64 c ∧ 0 ≤ c ∧ c ≤ 16777216 + 163 * (pos : Int) ∧ J pre wr ∧ wr.heap[G]? = some (.stringIter T pos) ∧ tb = pre ++ codesOf c (decs T fuel pos) ∧ T.size ≤ pos + fuel

set_option maxRecDepth 100000 in
set_option maxHeartbeats 2000000 in
theorem codes_in (n l : Nat) (h1 : 1 ≤ n) (f : Int) (T : ByteArray) (b : Bool) (hf : 0 ≤ f ∧ f ≤ 16777216) (hT : T.size < 1000) (tb : List (Int × Int)) (htb : tb = codesOf f (decs T T.size 0)) (Bz : Nat) (J Jx : List (Int × Int) → World → Prop)
    (hJa : ∀ pre W o, J pre W → J pre (W.alloc o))
    (hJi : ∀ pre W G s p p', J pre W → Bz ≤ G → W.heap[G]? = some (.stringIter s p) → J pre (W.iterAt G s p'))
    (hY : ∀ pre x W, J pre W → (∃ rest, tb = pre ++ x :: rest) → YieldAt Fence.wide (n - 1) Try.prog l #[.int .i64 x.1, .int .i32 x.2] W fun e W' =>
      (e = .returned (.bool true) ∧ J (pre ++ [x]) W' ∧ KeptI W W') ∨ (e = .returned (.bool false) ∧ Jx (pre ++ [x]) W'))
    (W : World) (hl : l < W.heap.size) (hB : Bz ≤ W.heap.size) (h0 : J [] W) :
    CallsIn Fence.wide n Try.prog 10 #[.agg #[.int .i64 f, .string T, .bool b], .func (.yield l) #[] #[]] W fun e W' => (∃ v, e = .returned v) ∧ (J tb W' ∨ ∃ pre, Jx pre W') := by
  have HT := Lib.hid hT
  have HF := Lib.hid hf
  have HTB := Lib.hid htb
  have HJI := Lib.hid hJi
  have HY := Lib.hid hY
  have H2 := Lib.hid (hJa _ _ (.stringIter T 0) (hJa _ _ (.cells #[.int .i64 f, .string T, .bool b] 33) h0))
  have HG := Lib.hid (show Bz ≤ W.heap.size + 1 by omega)
  have HI := Lib.hid (show ((W.alloc (.cells #[.int .i64 f, .string T, .bool b] 33)).alloc (.stringIter T 0)).heap[W.heap.size + 1]? = some (.stringIter T 0) by
    have := heap_alloc_last (W.alloc (.cells #[.int .i64 f, .string T, .bool b] 33)) (.stringIter T 0)
    rwa [World.size_alloc] at this)
  clear hT hf htb hJi hY hJa hB h0 hl
  refine callsIn_of_wp Try.func10 rfl trivial ?_ rfl
  simp only [Try.ntmps10, List.size_toArray, List.length_cons, List.length_nil, Nat.reduceAdd, Nat.reduceSub, Array.replicate_succ, Array.replicate_zero, List.push_toArray, List.append_toArray, List.nil_append, List.cons_append]
  gi_wp2_with fail
  have H3 := Lib.hid (show RelI J tb T (W.heap.size + 1) (.int .i64 f) ((W.alloc (.cells #[.int .i64 f, .string T, .bool b] 33)).alloc (.stringIter T 0)) from
    ⟨[], 0, T.size, f, rfl, HF.out.1, by have := HF.out.2; omega, H2.out, HI.out, by rw [List.nil_append]; exact HTB.out, by omega⟩)
  clear H2 HI HTB HF
  generalize hGb : W.heap.size + 1 = G at HG H3 ⊢
  gi_loopw [4] (fun i wr => RelI J tb T G i wr) (fun _ wr => T.size - wr.iterPos G)
  case atStart => exact H3.out
  case round =>
    obtain ⟨pre, pos, fuel, c, rfl, c0, c1, hJ, hit, htb, hfu⟩ := hrel
    have HJ := Lib.hid hJ
    have HIT := Lib.hid hit
    have HC := Lib.hid (And.intro c0 c1)
    have HTB := Lib.hid htb
    have HFU := Lib.hid hfu
    clear hJ c0 c1 htb hfu
    by_cases hp : pos < T.size
    · obtain ⟨F, hF⟩ : ∃ F, fuel = F + 1 := ⟨fuel - 1, by have := HFU.out; omega⟩
      obtain ⟨r, wd, hd⟩ : ∃ r wd, Utf8.decode T pos = (r, wd) := ⟨_, _, rfl⟩
      have hwd : 1 ≤ wd := by have := width_pos T pos hp; rw [hd] at this; exact this
      have hds : codesOf c (decs T fuel pos) = (c, (r : Int)) :: codesOf (nx c) (decs T F (pos + wd)) := by
        rw [hF, decs_at hp, hd]
        rfl
      have hnx : ∀ ty, (Instr.next (.pointer (some ⟨G, 0, none⟩)) true ty).run Try.prog wr = .ok (.tuple #[.bool true, .int .i64 pos, .int .i32 r]) (wr.iterAt G T (pos + wd)) := fun ty => by
        have := Lib.run_next_any_at (P := Try.prog) wr G T pos ty hit hp
        rwa [hd] at this
      have HJ2 := Lib.hid (HJI.out _ _ G T pos (pos + wd) HJ.out HG.out hit)
      have HI2 := Lib.hid (Lib.iterAt_heap wr G T pos (pos + wd) hit)
      have HTB2 := Lib.hid (show tb = (pre ++ [(c, (r : Int))]) ++ codesOf (nx c) (decs T F (pos + wd)) by rw [HTB.out, hds]; simp)
      have HNR := Lib.hid (nx_range (q := pos + wd) HC.out.1 HC.out.2 (by omega))
      have HM := Lib.hid (show T.size - (pos + wd) < T.size - wr.iterPos G by rw [show wr.iterPos G = pos by simp [World.iterPos, hit]]; omega)
      have HFU2 := Lib.hid (show T.size ≤ pos + wd + F by have := HFU.out; omega)
      have HNC := Lib.hid (fun w => next_any c HC.out.1 (by have := HC.out.2; have := HT.out; omega) w)
      obtain ⟨fn, tmps, assign, body, hy, hR⟩ := HY.out pre (c, (r : Int)) _ HJ2.out ⟨_, by rw [HTB.out, hds]⟩
      dsimp only at hy
      have HRo := Lib.hid hR
      clear hR hd hds hwd hp hF
      generalize wr.iterAt G T (pos + wd) = w2 at hnx hy HJ2 HI2 HRo
      gi_wp2_with fail
      refine HRo.out.mono ?_
      rintro e w3 (⟨rfl, hJ3, hk3⟩ | ⟨rfl, hJx3⟩)
      · have HJ3 := Lib.hid hJ3
        have HI3 := Lib.hid (hk3.2 _ _ _ HI2.out)
        clear hJ3 hk3 hy hnx hit
        gi_wp2_with fail
        refine ⟨trivial, ?_⟩
        gi_at_call 12
        refine (callsIn_wide.2 (HNC.out _)).mono ?_
        rintro e w4 ⟨rfl, rfl⟩
        gi_wp2_with fail
        refine ⟨⟨pre ++ [(c, (r : Int))], pos + wd, F, nx c, rfl, HNR.out.1, HNR.out.2, HJ3.out, HI3.out, HTB2.out, HFU2.out⟩, ?_⟩
        have h5 : w4.iterPos G = pos + wd := by simp [World.iterPos, HI3.out]
        rw [h5]
        exact HM.out
      · have HJ4 := Lib.hid hJx3
        clear hJx3 hy hnx hit
        gi_wp2_with fail
        refine bodyPost_ret (results_none rfl _ _ _) rfl ?_
        exact ⟨⟨_, rfl⟩, .inr ⟨_, HJ4.out⟩⟩
    · have hnx : ∀ ty, (Instr.next (.pointer (some ⟨G, 0, none⟩)) true ty).run Try.prog wr = _ := fun ty => Lib.run_next_end_at wr G T pos ty hit hp
      have HJ5 := Lib.hid (show J tb wr by
        have h := HTB.out
        rw [decs_end T fuel pos hp] at h
        simp only [codesOf, List.append_nil] at h
        rw [h]
        exact HJ.out)
      gi_wp2_with fail
      go_end0
      exact ⟨⟨_, rfl⟩, .inl HJ5.out⟩
end Go.Proofs.Ytkhcodmcddeakaa.U
