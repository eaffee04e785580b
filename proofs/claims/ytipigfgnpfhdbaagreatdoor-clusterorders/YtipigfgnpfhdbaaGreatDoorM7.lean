/- slices.insertionSortOrdered at int32. slices.siftDownOrdered at int32. slices.heapSortOrdered at int32. slices.reverseRangeOrdered at int32. slices.partialInsertionSortOrdered at int32. The ways through 'if i-a >= 2' meet again (go_cut). slices.Sort at int32: what it leaves in the row is the row, sorted. slices.Sorted of what an iterator tells; glyph.Known: all characters that have a code, rising. The spans of marks, a character's class by them, what the program's table and the reference's say, and that they say the same. Plain mathematics. -/
import Derived.Test.YtipigfgnpfhdbaaGreatDoorM6
import Derived.Deep.QuietTactic
import Derived.BigQuiet
import Derived.Sort.WalkA6
import Derived.Deep.CutRange
import Derived.Deep.LoopGhost
import Derived.Sort.WalkA14
import Derived.Test.YtipigfgnpfhdbaaGreatDoorM5
import Derived.KernelRfl
namespace Go.Proofs.YtipigfgnpfhdbaaGreatDoor.Q
open Go.RowKit U
open Go.Sort (putRow Holds swp ltInt insOuter insInner)
set_option linter.unusedVariables false

def InsO (W : World) (blk off N a b : Nat) (R : Array Int) (u : Value) (wr : World) : Prop := ∃ (i : Nat) (dk : Array Int), u = .int .i64 i ∧ a < i ∧ i ≤ b + 1 ∧ dk.size = N ∧ At W blk off dk wr ∧ insOuter ltInt a b i dk = R
def InsI (W : World) (blk off N a i : Nat) (R : Array Int) (u : Value) (wr : World) : Prop := ∃ (j : Nat) (dj : Array Int), u = .int .i64 j ∧ a ≤ j ∧ j ≤ i ∧ dj.size = N ∧ At W blk off dj wr ∧ insInner ltInt a j dj = R
set_option maxRecDepth 100000 in
set_option maxHeartbeats 4000000 in
theorem ins_is (blk off cap a b : Nat) (D d : Array Int) (W w : World) (hH : Holds E W blk off D) (hd : d.size = D.size) (hA : At W blk off d w) (hab : a ≤ b) (hb : b ≤ D.size) (hsz : D.size < 4611686018427387904) :
    Calls Tryz.prog 73 #[.slice (some ⟨blk, off, none⟩) D.size cap, .int .i64 a, .int .i64 b] w fun e w' => e = .returned (.tuple #[]) ∧ At W blk off (Go.Sort.insertionSort ltInt d a b) w' := by
  obtain ⟨R, hR⟩ : ∃ R, Go.Sort.insertionSort ltInt d a b = R := ⟨_, rfl⟩
  rw [hR]
  have HR := Lib.hid (show insOuter ltInt a b (a + 1) d = R from hR)
  have HH := Lib.hid hH
  have HA := Lib.hid hA
  have HD := Lib.hid hd
  have HLs := Lib.hid less_is
  have HB := Lib.hid (And.intro hab (And.intro hb hsz))
  obtain ⟨N, hN⟩ : ∃ N, D.size = N := ⟨_, rfl⟩
  have HN := Lib.hid hN
  rw [hN]
  clear hR hH hA hd hab hb hsz hN
  go_enter Tryz.func73, Tryz.ntmps73
  go_wp2
  go_loopw [6] (fun u wr => InsO W blk off N a b R u wr) (fun u _ => b + 1 - (intOf u).toNat)
  case atStart => exact ⟨a + 1, d, by have h1 := HB.out; have h2 : wrap64 ((a : Int) + 1) = ((a + 1 : Nat) : Int) := (by unfold wrap64; omega); rw [h2], by omega, by have := HB.out; omega, by rw [HD.out]; exact HN.out, HA.out, HR.out⟩
  case round =>
    obtain ⟨i, dk, rfl, hai, hib, hsk, hAk, hO⟩ := hrel
    have HI := Lib.hid (And.intro hai (And.intro hib hsk))
    have HAk := Lib.hid hAk
    have HO := Lib.hid hO
    clear hai hib hsk hAk hO
    by_cases hlt : i < b
    · have q0 : decide ((i : Int) < (b : Int)) = true := by simp; omega
      have HLt := Lib.hid hlt
      clear hlt
      go_wp2
      obtain ⟨S, hS⟩ : ∃ S, insInner ltInt a i dk = S := ⟨_, rfl⟩
      have HS := Lib.hid hS
      clear hS q0
      go_loopw [7] (fun u wr2 => InsI W blk off N a i S u wr2) (fun u _ => (intOf u).toNat)
      case atStart => exact ⟨i, dk, rfl, by have := HI.out; omega, Nat.le_refl _, HI.out.2.2, HAk.out, HS.out⟩
      case round =>
        obtain ⟨j, dj, rfl, haj, hji, hsj, hAj, hIn⟩ := hrel
        have HJ := Lib.hid (And.intro haj (And.intro hji hsj))
        have HAj := Lib.hid hAj
        have HIn := Lib.hid hIn
        clear haj hji hsj hAj hIn
        obtain ⟨G, hG⟩ : ∃ G : Nat → Int, ∀ t, G t = dj[t]! := ⟨fun t => dj[t]!, fun _ => rfl⟩
        have hcw : ∀ t, t < N → wr.cell? ⟨blk, off + t, none⟩ = some (.int .i32 (G t)) := fun t ht => by
          rw [hG]
          exact HAj.out.cell HH.out (by rw [HN.out]; exact HJ.out.2.2) (by rw [HN.out]; exact ht)
        have hfw : ∀ t, t < N → wr.frozen? ⟨blk, off + t, none⟩ = false := fun t ht => HAj.out.free HH.out (by rw [HN.out]; exact ht)
        have HG := Lib.hid hG
        clear hG
        have hjN : j < N := by have := HJ.out; have := HB.out; have := HLt.out; have := HN.out; omega
        have hN2 : N < 4611686018427387904 := by have := HB.out; have := HN.out; omega
        go_wp2
        by_cases hja : a < j
        · have HJa := Lib.hid hja
          go_quiet (first | (go_at_call 79; refine Calls.quiet_of_same (HLs.out _ _ _)))
          go_wp2
          · have hl : ltInt (G j) (G (j - 1)) = true := by assumption
            have HL := Lib.hid hl
            go_region
            all_goals go_wp2
            go_roundw
            case rel =>
              refine ⟨j - 1, swp dj j (j - 1), by congr 1; omega, by omega, by have := HJ.out; omega, by rw [Go.Sort.size_swp]; exact HJ.out.2.2, ?_, ?_⟩
              · rw [HG.out, HG.out]
                exact HAj.out.swap (blk_lt HH.out (t := j) (by rw [HN.out]; exact hjN)) (nq + 1) (by have := HJ.out; omega) (by have := HJ.out; omega)
              · rw [← HIn.out, insInner_go ltInt a j dj HJa.out (by rw [← HG.out, ← HG.out]; exact HL.out)]
            case measure => simp [intOf]; omega
          · have hl : ltInt (G j) (G (j - 1)) = false := by assumption
            have h0 := HB.out
            have h1 := HLt.out
            have h2 := HN.out
            have h3 := HI.out
            have hw1 : wrap64 ((i : Int) + 1) = ((i + 1 : Nat) : Int) := by unfold wrap64; omega
            go_roundw
            case rel =>
              refine ⟨i + 1, dj, by first | rfl | rw [hw1], by omega, by omega, HJ.out.2.2, HAj.out.drew nq, ?_⟩
              rw [← HO.out, insOuter_go _ _ _ _ _ h1, HS.out, ← HIn.out, insInner_stop _ _ _ _ (Or.inr (by rw [← HG.out, ← HG.out]; exact hl))]
            case measure => exact meas_i (by omega) hw1
        · go_quiet (first | (go_at_call 79; refine Calls.quiet_of_same (HLs.out _ _ _)))
          go_wp2
          have h0 := HB.out
          have h1 := HLt.out
          have h2 := HN.out
          have h3 := HI.out
          have hw1 : wrap64 ((i : Int) + 1) = ((i + 1 : Nat) : Int) := by unfold wrap64; omega
          go_roundw
          case rel =>
            refine ⟨i + 1, dj, by first | rfl | rw [hw1], by omega, by omega, HJ.out.2.2, HAj.out.drew nq, ?_⟩
            rw [← HO.out, insOuter_go _ _ _ _ _ h1, HS.out, ← HIn.out, insInner_stop _ _ _ _ (Or.inl (by omega))]
          case measure => exact meas_i (by omega) hw1
    · have q0 : decide ((i : Int) < (b : Int)) = false := by simp; omega
      have HGe := Lib.hid hlt
      clear hlt
      go_wp2
      go_end0
      refine ⟨rfl, ?_⟩
      rw [← HO.out, insOuter_stop _ _ _ _ _ HGe.out]
      exact HAk.out
end Go.Proofs.YtipigfgnpfhdbaaGreatDoor.Q
namespace Go.Proofs.YtipigfgnpfhdbaaGreatDoor.Q
open Go.RowKit U
open Go.Sort (putRow Holds swp ltInt siftDown heapBuild heapPop heapSort)
set_option linter.unusedVariables false

theorem sd_stop {hi first r : Nat} {d : Array Int} (h : hi ≤ 2 * r + 1) : siftDown ltInt hi first r d = d := by rw [siftDown, dif_pos h]
theorem sd_two {hi first r : Nat} {d : Array Int} (h : 2 * r + 2 < hi) (hl : ltInt d[first + (2 * r + 1)]! d[first + (2 * r + 2)]! = true) :
    siftDown ltInt hi first r d = if ltInt d[first + r]! d[first + (2 * r + 2)]! then siftDown ltInt hi first (2 * r + 2) (swp d (first + r) (first + (2 * r + 2))) else d := by
  rw [siftDown, dif_neg (by omega), if_pos (by rw [show first + (2 * r + 1) + 1 = first + (2 * r + 2) by omega, hl]; simp; omega)]
  cases ltInt d[first + r]! d[first + (2 * r + 2)]!
  · simp
  · simp [h]
theorem sd_one {hi first r : Nat} {d : Array Int} (h : 2 * r + 1 < hi) (hl : hi ≤ 2 * r + 2 ∨ ltInt d[first + (2 * r + 1)]! d[first + (2 * r + 2)]! = false) :
    siftDown ltInt hi first r d = if ltInt d[first + r]! d[first + (2 * r + 1)]! then siftDown ltInt hi first (2 * r + 1) (swp d (first + r) (first + (2 * r + 1))) else d := by
  rw [siftDown, dif_neg (by omega), if_neg ?_]
  · cases ltInt d[first + r]! d[first + (2 * r + 1)]!
    · simp
    · simp
  · rw [show first + (2 * r + 1) + 1 = first + (2 * r + 2) by omega]
    rcases hl with hl | hl
    · simp; omega
    · rw [hl]; simp
def SdR (W : World) (blk off N hi first : Nat) (R : Array Int) (u : Value) (wr : World) : Prop := ∃ (r : Nat) (dk : Array Int), u = .int .i64 r ∧ r ≤ hi ∧ dk.size = N ∧ At W blk off dk wr ∧ siftDown ltInt hi first r dk = R
set_option maxRecDepth 100000 in
set_option maxHeartbeats 4000000 in
theorem sift_is (blk off cap root hi first : Nat) (D d : Array Int) (W w : World) (hH : Holds E W blk off D) (hd : d.size = D.size) (hA : At W blk off d w) (hr : root ≤ hi) (hb : first + hi ≤ D.size) (hsz : D.size < 1152921504606846976) :
    Calls Tryz.prog 111 #[.slice (some ⟨blk, off, none⟩) D.size cap, .int .i64 root, .int .i64 hi, .int .i64 first] w fun e w' => e = .returned (.tuple #[]) ∧ At W blk off (siftDown ltInt hi first root d) w' := by
  obtain ⟨R, hR⟩ : ∃ R, siftDown ltInt hi first root d = R := ⟨_, rfl⟩
  rw [hR]
  have HR := Lib.hid hR
  have HH := Lib.hid hH
  have HA := Lib.hid hA
  have HD := Lib.hid hd
  have HLs := Lib.hid less_is
  have HB := Lib.hid (And.intro hr (And.intro hb hsz))
  obtain ⟨N, hN⟩ : ∃ N, D.size = N := ⟨_, rfl⟩
  have HN := Lib.hid hN
  rw [hN]
  clear hR hH hA hd hr hb hsz hN
  go_enter Tryz.func111, Tryz.ntmps111
  go_wp2
  go_loopw [8, 9] (fun u _ wr => SdR W blk off N hi first R u wr) (fun u _ _ => N - (intOf u).toNat)
  case atStart => exact ⟨root, d, rfl, HB.out.1, by rw [HD.out]; exact HN.out, HA.out, HR.out⟩
  case round =>
    obtain ⟨r, dk, rfl, hrh, hsk, hAk, hO⟩ := hrel
    have HI := Lib.hid (And.intro hrh hsk)
    have HAk := Lib.hid hAk
    have HO := Lib.hid hO
    have hrN : r < 1152921504606846976 := by have := HB.out; have := HN.out; omega
    obtain ⟨G, hG⟩ : ∃ G : Nat → Int, ∀ t, G t = dk[t]! := ⟨fun t => dk[t]!, fun _ => rfl⟩
    have hcw : ∀ t, t < N → wr.cell? ⟨blk, off + t, none⟩ = some (.int .i32 (G t)) := fun t ht => by
      rw [hG]
      exact HAk.out.cell HH.out (by rw [HN.out]; exact HI.out.2) (by rw [HN.out]; exact ht)
    have hfw : ∀ t, t < N → wr.frozen? ⟨blk, off + t, none⟩ = false := fun t ht => HAk.out.free HH.out (by rw [HN.out]; exact ht)
    have HG := Lib.hid hG
    clear hrh hsk hAk hO hG
    by_cases hch : hi ≤ 2 * r + 1
    · have q0 : decide ((hi : Int) ≤ 2 * (r : Int) + 1) = true := by simp; omega
      have HCh := Lib.hid hch
      clear hch
      go_wp2
      go_end0
      refine ⟨rfl, ?_⟩
      rw [← HO.out, sd_stop HCh.out]
      exact HAk.out
    · have q0 : decide ((hi : Int) ≤ 2 * (r : Int) + 1) = false := by simp; omega
      have HCh := Lib.hid hch
      have hN2 : N < 1152921504606846976 := by have := HB.out; have := HN.out; omega
      have hfc : first + (2 * r + 1) < N := by have := HB.out; have := HN.out; omega
      have HFr : Hid (first + r < N) := Lib.hid (by have := HB.out; have := HN.out; omega)
      clear hch
      go_wp2
      by_cases hc2 : 2 * r + 2 < hi
      · have q1 : decide (2 * (r : Int) + 1 + 1 < (hi : Int)) = true := by simp; omega
        have hfc2 : first + (2 * r + 1) + 1 < N := by have := HB.out; have := HN.out; omega
        have HC2 := Lib.hid hc2
        clear hc2
        go_quiet (first | (go_at_call 79; refine Calls.quiet_of_same (HLs.out _ _ _)))
        go_wp2_with fail
        · have hl : ltInt (G (first + (2 * r + 1))) (G (first + (2 * r + 1) + 1)) = true := by assumption
          have HL := Lib.hid hl
          have HCc : Hid (2 * r + 2 < hi) := HC2
          have hfr := HFr.out
          have hfc3 : first + (2 * r + 1 + 1) < N := by omega
          have p4 : IntKind.i64.wrap ((first : Int) + (r : Int)) = (first : Int) + (r : Int) := by rw [IntKind.wrap_i64]; omega
          have p5 : IntKind.i64.wrap ((first : Int) + (2 * (r : Int) + 1 + 1)) = (first : Int) + (2 * (r : Int) + 1 + 1) := by rw [IntKind.wrap_i64]; omega
          have HA2 := Lib.hid (HAk.out.drew nq)
          have hcw2 : ∀ t, t < N → (wr.drewN nq).cell? ⟨blk, off + t, none⟩ = some (.int .i32 (G t)) := hcw
          have hfw2 : ∀ t, t < N → (wr.drewN nq).frozen? ⟨blk, off + t, none⟩ = false := hfw
          clear hcw hfw HAk
          generalize wr.drewN nq = wr2 at HA2 hcw2 hfw2 ⊢
          go_quiet (first | (go_at_call 79; refine Calls.quiet_of_same (HLs.out _ _ _)))
          go_wp2_with fail
          · have hl2 : (!ltInt (G (first + r)) (G (first + (2 * r + 1 + 1)))) = true := by assumption
            (try simp only [Exit.inBlock, Exit.then]); refine bodyPost_ret (results_none rfl _ _ _) rfl ?_
            refine ⟨rfl, ?_⟩
            rw [← HO.out, sd_two HC2.out (by rw [← HG.out, ← HG.out]; exact HL.out), if_neg (by rw [← HG.out, ← HG.out]; simpa using hl2)]
            exact HA2.out.drew _
          · have hl2 : (!ltInt (G (first + r)) (G (first + (2 * r + 1 + 1)))) = false := by assumption
            have HL2 := Lib.hid (show ltInt (G (first + r)) (G (first + (2 * r + 1 + 1))) = true by simpa using hl2)
            go_region
            all_goals go_wp2
            have h1 := HB.out
            have h2 := HN.out
            have h3 := HI.out
            have h4 := HCc.out
            go_roundw
            case rel =>
              refine ⟨2 * r + 2, swp dk (first + r) (first + (2 * r + 2)), by first | rfl | (congr 1; omega), by omega, by rw [Go.Sort.size_swp]; exact h3.2, ?_, ?_⟩
              · rw [HG.out, HG.out]
                exact HA2.out.swap (blk_lt HH.out (t := first + r) (by omega)) _ (by rw [h3.2]; omega) (by rw [h3.2]; omega)
              · rw [← HO.out, sd_two HC2.out (by rw [← HG.out, ← HG.out]; exact HL.out), if_pos (by rw [← HG.out, ← HG.out]; exact HL2.out)]
            case measure => exact meas_c (c := 2 * r + 2) (by omega) (by omega) (by omega)
        · have hl : ltInt (G (first + (2 * r + 1))) (G (first + (2 * r + 1) + 1)) = false := by assumption
          have HL := Lib.hid hl
          have HCc : Hid (2 * r + 1 < hi) := Lib.hid (by have := HC2.out; omega)
          have hfr := HFr.out
          have hfc3 : first + (2 * r + 1) < N := by omega
          have p4 : IntKind.i64.wrap ((first : Int) + (r : Int)) = (first : Int) + (r : Int) := by rw [IntKind.wrap_i64]; omega
          have p5 : IntKind.i64.wrap ((first : Int) + (2 * (r : Int) + 1)) = (first : Int) + (2 * (r : Int) + 1) := by rw [IntKind.wrap_i64]; omega
          have HA2 := Lib.hid (HAk.out.drew nq)
          have hcw2 : ∀ t, t < N → (wr.drewN nq).cell? ⟨blk, off + t, none⟩ = some (.int .i32 (G t)) := hcw
          have hfw2 : ∀ t, t < N → (wr.drewN nq).frozen? ⟨blk, off + t, none⟩ = false := hfw
          clear hcw hfw HAk
          generalize wr.drewN nq = wr2 at HA2 hcw2 hfw2 ⊢
          go_quiet (first | (go_at_call 79; refine Calls.quiet_of_same (HLs.out _ _ _)))
          go_wp2_with fail
          · have hl2 : (!ltInt (G (first + r)) (G (first + (2 * r + 1)))) = true := by assumption
            (try simp only [Exit.inBlock, Exit.then]); refine bodyPost_ret (results_none rfl _ _ _) rfl ?_
            refine ⟨rfl, ?_⟩
            rw [← HO.out, sd_one HCc.out (Or.inr (by rw [← HG.out, ← HG.out]; exact HL.out)), if_neg (by rw [← HG.out, ← HG.out]; simpa using hl2)]
            exact HA2.out.drew _
          · have hl2 : (!ltInt (G (first + r)) (G (first + (2 * r + 1)))) = false := by assumption
            have HL2 := Lib.hid (show ltInt (G (first + r)) (G (first + (2 * r + 1))) = true by simpa using hl2)
            go_region
            all_goals go_wp2
            have h1 := HB.out
            have h2 := HN.out
            have h3 := HI.out
            have h4 := HCc.out
            go_roundw
            case rel =>
              refine ⟨2 * r + 1, swp dk (first + r) (first + (2 * r + 1)), by first | rfl | (congr 1; omega), by omega, by rw [Go.Sort.size_swp]; exact h3.2, ?_, ?_⟩
              · rw [HG.out, HG.out]
                exact HA2.out.swap (blk_lt HH.out (t := first + r) (by omega)) _ (by rw [h3.2]; omega) (by rw [h3.2]; omega)
              · rw [← HO.out, sd_one HCc.out (Or.inr (by rw [← HG.out, ← HG.out]; exact HL.out)), if_pos (by rw [← HG.out, ← HG.out]; exact HL2.out)]
            case measure => exact meas_c (c := 2 * r + 1) (by omega) (by omega) (by omega)
      · have q1 : decide (2 * (r : Int) + 1 + 1 < (hi : Int)) = false := by simp; omega
        have HC2 := Lib.hid hc2
        clear hc2
        go_quiet (first | (go_at_call 79; refine Calls.quiet_of_same (HLs.out _ _ _)))
        go_wp2_with fail
        have HCc : Hid (2 * r + 1 < hi) := Lib.hid (by have := HCh.out; omega)
        have hfr := HFr.out
        have hfc3 : first + (2 * r + 1) < N := by omega
        have p4 : IntKind.i64.wrap ((first : Int) + (r : Int)) = (first : Int) + (r : Int) := by rw [IntKind.wrap_i64]; omega
        have p5 : IntKind.i64.wrap ((first : Int) + (2 * (r : Int) + 1)) = (first : Int) + (2 * (r : Int) + 1) := by rw [IntKind.wrap_i64]; omega
        have HA2 := Lib.hid (HAk.out.drew nq)
        have hcw2 : ∀ t, t < N → (wr.drewN nq).cell? ⟨blk, off + t, none⟩ = some (.int .i32 (G t)) := hcw
        have hfw2 : ∀ t, t < N → (wr.drewN nq).frozen? ⟨blk, off + t, none⟩ = false := hfw
        clear hcw hfw HAk
        generalize wr.drewN nq = wr2 at HA2 hcw2 hfw2 ⊢
        go_quiet (first | (go_at_call 79; refine Calls.quiet_of_same (HLs.out _ _ _)))
        go_wp2_with fail
        · have hl2 : (!ltInt (G (first + r)) (G (first + (2 * r + 1)))) = true := by assumption
          (try simp only [Exit.inBlock, Exit.then]); refine bodyPost_ret (results_none rfl _ _ _) rfl ?_
          refine ⟨rfl, ?_⟩
          rw [← HO.out, sd_one HCc.out (Or.inl (by have := HC2.out; omega)), if_neg (by rw [← HG.out, ← HG.out]; simpa using hl2)]
          exact HA2.out.drew _
        · have hl2 : (!ltInt (G (first + r)) (G (first + (2 * r + 1)))) = false := by assumption
          have HL2 := Lib.hid (show ltInt (G (first + r)) (G (first + (2 * r + 1))) = true by simpa using hl2)
          go_region
          all_goals go_wp2
          have h1 := HB.out
          have h2 := HN.out
          have h3 := HI.out
          have h4 := HCc.out
          go_roundw
          case rel =>
            refine ⟨2 * r + 1, swp dk (first + r) (first + (2 * r + 1)), by first | rfl | (congr 1; omega), by omega, by rw [Go.Sort.size_swp]; exact h3.2, ?_, ?_⟩
            · rw [HG.out, HG.out]
              exact HA2.out.swap (blk_lt HH.out (t := first + r) (by omega)) _ (by rw [h3.2]; omega) (by rw [h3.2]; omega)
            · rw [← HO.out, sd_one HCc.out (Or.inl (by have := HC2.out; omega)), if_pos (by rw [← HG.out, ← HG.out]; exact HL2.out)]
          case measure => exact meas_c (c := 2 * r + 1) (by omega) (by omega) (by omega)
end Go.Proofs.YtipigfgnpfhdbaaGreatDoor.Q
namespace Go.Proofs.YtipigfgnpfhdbaaGreatDoor.Q
open Go.RowKit U
open Go.Sort (putRow Holds swp ltInt siftDown heapBuild heapPop heapSort)
set_option linter.unusedVariables false

theorem size_sift (hi first : Nat) : ∀ (n r : Nat) (d : Array Int), hi - r ≤ n → (siftDown ltInt hi first r d).size = d.size := by
  intro n
  induction n with
  | zero => intro r d h; rw [sd_stop (by omega)]
  | succ n ih =>
    intro r d h
    by_cases h1 : hi ≤ 2 * r + 1
    · rw [sd_stop h1]
    · by_cases h2 : 2 * r + 2 < hi ∧ ltInt d[first + (2 * r + 1)]! d[first + (2 * r + 2)]! = true
      · rw [sd_two h2.1 h2.2]
        split
        · rw [ih _ _ (by omega), Go.Sort.size_swp]
        · rfl
      · rw [sd_one (by omega) (by
          by_cases h3 : hi ≤ 2 * r + 2
          · exact Or.inl h3
          · refine Or.inr ?_
            cases hb : ltInt d[first + (2 * r + 1)]! d[first + (2 * r + 2)]!
            · rfl
            · exact absurd ⟨by omega, hb⟩ h2)]
        split
        · rw [ih _ _ (by omega), Go.Sort.size_swp]
        · rfl
def BuR (W : World) (blk off N hi first m : Nat) (R : Array Int) (u : Value) (wr : World) : Prop := ∃ (k : Nat) (dk : Array Int), u = .int .i64 ((k : Int) - 1) ∧ k ≤ m ∧ dk.size = N ∧ At W blk off dk wr ∧ heapBuild ltInt hi first k dk = R
def PoR (W : World) (blk off N hi first : Nat) (R : Array Int) (u : Value) (wr : World) : Prop := ∃ (k : Nat) (dk : Array Int), u = .int .i64 ((k : Int) - 1) ∧ k ≤ hi ∧ dk.size = N ∧ At W blk off dk wr ∧ heapPop ltInt first k dk = R
theorem meas_d {k : Nat} (x : Int) (hx : x = (k : Int) - 1) : (intOf (.int .i64 x) + 1).toNat < (intOf (.int .i64 (k : Int)) + 1).toNat := by
  subst hx
  show ((k : Int) - 1 + 1).toNat < ((k : Int) + 1).toNat
  omega
set_option maxRecDepth 100000 in
set_option maxHeartbeats 4000000 in
theorem heap_is (blk off cap a b : Nat) (D d : Array Int) (W w : World) (hH : Holds E W blk off D) (hd : d.size = D.size) (hA : At W blk off d w) (hab : a < b) (hb : b ≤ D.size) (hsz : D.size < 1152921504606846976) :
    Calls Tryz.prog 74 #[.slice (some ⟨blk, off, none⟩) D.size cap, .int .i64 a, .int .i64 b] w fun e w' => e = .returned (.tuple #[]) ∧ At W blk off (heapSort ltInt d a b) w' := by
  obtain ⟨hi, hhi⟩ : ∃ hi, b - a = hi := ⟨_, rfl⟩
  obtain ⟨m, hm⟩ : ∃ m, (hi - 1) / 2 = m := ⟨_, rfl⟩
  obtain ⟨S, hS⟩ : ∃ S, heapBuild ltInt hi a (m + 1) d = S := ⟨_, rfl⟩
  obtain ⟨R, hR⟩ : ∃ R, heapPop ltInt a hi S = R := ⟨_, rfl⟩
  have he : heapSort ltInt d a b = R := by
    unfold heapSort
    rw [hhi, hm, hS, hR]
  rw [he]
  have HS := Lib.hid hS
  have HRR := Lib.hid hR
  have HH := Lib.hid hH
  have HA := Lib.hid hA
  have HD := Lib.hid hd
  have HSi := Lib.hid (fun root h d w h1 h2 h3 h4 => sift_is blk off cap root h a D d W w hH h1 h2 h3 h4 hsz)
  have HB := Lib.hid (And.intro hab (And.intro hb (And.intro hsz (And.intro hhi hm))))
  obtain ⟨N, hN⟩ : ∃ N, D.size = N := ⟨_, rfl⟩
  have HN := Lib.hid hN
  rw [hN] at HSi ⊢
  have p1 : wrap64 ((b : Int) - (a : Int)) = (hi : Int) := by unfold wrap64; omega
  have p2 : wrap64 ((hi : Int) - 1) = (hi : Int) - 1 := by unfold wrap64; omega
  have p3 : ((hi : Int) - 1).tdiv 2 = (m : Int) := by rw [Int.tdiv_eq_ediv_of_nonneg (by omega)]; omega
  have p4 : wrap64 (m : Int) = (m : Int) := by unfold wrap64; omega
  clear hS hR hH hA hd hab hb hsz hN hhi hm he
  go_enter Tryz.func74, Tryz.ntmps74
  go_wp2
  (try simp only [p1, p2, p3, p4])
  clear p1 p3 p4
  have HP2 := Lib.hid p2
  clear p2
  go_loopw [9] (fun u wr => BuR W blk off N hi a (m + 1) S u wr) (fun u _ => (intOf u + 1).toNat)
  case atStart => exact ⟨m + 1, d, by first | rfl | (congr 1; omega), Nat.le_refl _, by rw [HD.out]; exact HN.out, HA.out, HS.out⟩
  case round =>
    obtain ⟨k, dk, rfl, hkm, hsk, hAk, hO⟩ := hrel
    have HI := Lib.hid (And.intro hkm hsk)
    have HAk := Lib.hid hAk
    have HO := Lib.hid hO
    clear hkm hsk hAk hO
    cases k with
    | succ k =>
      have e0 : ((k + 1 : Nat) : Int) - 1 = (k : Int) := by omega
      rw [e0]
      have q0 : decide ((0 : Int) ≤ (k : Int)) = true := by simp
      have hb := HB.out
      have hn := HN.out
      have hc := HSi.out k hi dk wr (by rw [HI.out.2]) HAk.out (by have := HI.out; omega) (by omega)
      have HCl := Lib.hid hc
      clear hb hc hn
      go_wp2_with (go_at_call 111; (with_reducible refine HCl.out.mono ?_); rintro e w1 ⟨rfl, h1⟩; have H1 := Lib.hid h1; clear h1)
      have hw : wrap64 ((k : Int) - 1) = (k : Int) - 1 := by have := HB.out; have := HI.out; unfold wrap64; omega
      go_roundw
      case rel =>
        refine ⟨k, siftDown ltInt hi a k dk, by first | rfl | rw [hw], by have := HI.out; omega, by rw [size_sift hi a hi k dk (by omega)]; exact HI.out.2, H1.out, ?_⟩
        rw [← HO.out]
        rfl
      case measure => exact meas_d (k := k) _ hw
    | zero =>
      have e0 : ((0 : Nat) : Int) - 1 = -1 := rfl
      rw [e0]
      have hs : dk = S := HO.out
      have HAS := Lib.hid (show At W blk off S wr by rw [← hs]; exact HAk.out)
      have HSs := Lib.hid (show S.size = N by rw [← hs]; exact HI.out.2)
      clear hs
      have p2 := HP2.out
      go_wp2
      (try simp only [p2])
      clear p2
      go_loopw [10] (fun u wr => PoR W blk off N hi a R u wr) (fun u _ => (intOf u + 1).toNat)
      case atStart => exact ⟨hi, S, by first | rfl | (congr 1), Nat.le_refl _, HSs.out, HAS.out, HRR.out⟩
      case round =>
        obtain ⟨k, dj, rfl, hkm, hsj, hAj, hP⟩ := hrel
        have HJ := Lib.hid (And.intro hkm hsj)
        have HAj := Lib.hid hAj
        have HP := Lib.hid hP
        clear hkm hsj hAj hP
        cases k with
        | zero =>
          rw [e0]
          go_wp2
          go_end0
          refine ⟨rfl, ?_⟩
          have : dj = R := HP.out
          rw [← this]
          exact HAj.out
        | succ k =>
          have e1 : ((k + 1 : Nat) : Int) - 1 = (k : Int) := by omega
          rw [e1]
          have q0 : decide ((0 : Int) ≤ (k : Int)) = true := by simp
          obtain ⟨G, hG⟩ : ∃ G : Nat → Int, ∀ t, G t = dj[t]! := ⟨fun t => dj[t]!, fun _ => rfl⟩
          have hcw : ∀ t, t < N → wr.cell? ⟨blk, off + t, none⟩ = some (.int .i32 (G t)) := fun t ht => by
            rw [hG]
            exact HAj.out.cell HH.out (by rw [HN.out]; exact HJ.out.2) (by rw [HN.out]; exact ht)
          have hfw : ∀ t, t < N → wr.frozen? ⟨blk, off + t, none⟩ = false := fun t ht => HAj.out.free HH.out (by rw [HN.out]; exact ht)
          have HG := Lib.hid hG
          have hak : a + k < N := by have := HB.out; have := HN.out; have := HJ.out; omega
          have haN : a < N := by omega
          have hN2 : N < 1152921504606846976 := by have := HB.out; have := HN.out; omega
          have p5 : IntKind.i64.wrap ((a : Int) + (k : Int)) = (a : Int) + (k : Int) := by rw [IntKind.wrap_i64]; omega
          clear hG
          by_cases hk0 : 0 < k
          · have hne : ¬ k = 0 := by omega
            go_wp2_with fail
            go_region
            all_goals go_wp2_with fail
            have hnn := HN.out
            have hjj := HJ.out
            have h3 := (HAj.out.swap (blk_lt HH.out (t := a) (by omega)) 0 (j := a) (k := a + k) (by rw [hjj.2]; omega) (by rw [hjj.2]; omega)).drew1
            rw [← HG.out, ← HG.out] at h3
            have hc := HSi.out 0 k (swp dj a (a + k)) _ (by rw [Go.Sort.size_swp]; exact hjj.2) h3 (by omega) (by omega)
            have hw : wrap64 (((k : Nat) : Int) - 1) = ((k : Nat) : Int) - 1 := by have := HB.out; unfold wrap64; omega
            have HCl := Lib.hid hc
            have Hw := Lib.hid hw
            clear h3 hc hw hcw hfw
            go_wp2_with (go_at_call 111; refine HCl.out.mono ?_; rintro e w1 ⟨rfl, h1⟩; have H1 := Lib.hid h1; clear h1)
            go_roundw
            case rel =>
              refine ⟨k, siftDown ltInt k a 0 (swp dj a (a + k)), by first | rfl | rw [Hw.out], by omega, by rw [size_sift k a k 0 _ (by omega), Go.Sort.size_swp]; exact hjj.2, H1.out, ?_⟩
              rw [← HP.out]
              rfl
            case measure => exact meas_d (k := k) _ (by first | exact Hw.out | rfl)
          · obtain rfl : k = 0 := by omega
            go_wp2_with fail
            go_region
            all_goals go_wp2_with fail
            have hnn := HN.out
            have hjj := HJ.out
            have h3 := (HAj.out.swap (blk_lt HH.out (t := a) (by omega)) 0 (j := a) (k := a + 0) (by rw [hjj.2]; omega) (by rw [hjj.2]; omega)).drew1
            rw [← HG.out, ← HG.out] at h3
            have hc := HSi.out 0 0 (swp dj a (a + 0)) _ (by rw [Go.Sort.size_swp]; exact hjj.2) h3 (by omega) (by omega)
            have hw : wrap64 (((0 : Nat) : Int) - 1) = ((0 : Nat) : Int) - 1 := by have := HB.out; unfold wrap64; omega
            have HCl := Lib.hid hc
            have Hw := Lib.hid hw
            clear h3 hc hw hcw hfw
            go_wp2_with (go_at_call 111; refine HCl.out.mono ?_; rintro e w1 ⟨rfl, h1⟩; have H1 := Lib.hid h1; clear h1)
            go_roundw
            case rel =>
              refine ⟨0, siftDown ltInt 0 a 0 (swp dj a (a + 0)), by first | rfl | rw [Hw.out], by omega, by rw [size_sift 0 a 0 0 _ (by omega), Go.Sort.size_swp]; exact hjj.2, H1.out, ?_⟩
              rw [← HP.out]
              rfl
            case measure => exact meas_d (k := 0) _ (by first | exact Hw.out | rfl)
end Go.Proofs.YtipigfgnpfhdbaaGreatDoor.Q
namespace Go.Proofs.YtipigfgnpfhdbaaGreatDoor.Q
open Go.RowKit U
open Go.Sort (putRow Holds swp ltInt reverseLoop reverseRange)
set_option linter.unusedVariables false

theorem rev_go (i j : Nat) (d : Array Int) (h : i < j) : reverseLoop i j d = reverseLoop (i + 1) (j - 1) (swp d i j) := by rw [reverseLoop, if_pos h]
theorem rev_stop (i j : Nat) (d : Array Int) (h : ¬ i < j) : reverseLoop i j d = d := by rw [reverseLoop, if_neg h]
/-- j = -1 where b = 0. -/
def RevR (W : World) (blk off N a b : Nat) (R : Array Int) (u v : Value) (wr : World) : Prop := ∃ (i k : Nat) (dk : Array Int), u = .int .i64 i ∧ v = .int .i64 ((k : Int) - 1) ∧ a ≤ i ∧ i ≤ N ∧ k ≤ b ∧ dk.size = N ∧ At W blk off dk wr ∧ reverseLoop i (k - 1) dk = R
set_option maxRecDepth 100000 in
set_option maxHeartbeats 4000000 in
theorem rev_is (blk off cap a b : Nat) (D d : Array Int) (W w : World) (hH : Holds E W blk off D) (hd : d.size = D.size) (hA : At W blk off d w) (hab : a ≤ b) (hb : b ≤ D.size) (hsz : D.size < 4611686018427387904) :
    Calls Tryz.prog 77 #[.slice (some ⟨blk, off, none⟩) D.size cap, .int .i64 a, .int .i64 b] w fun e w' => e = .returned (.tuple #[]) ∧ At W blk off (reverseRange d a b) w' := by
  obtain ⟨R, hR⟩ : ∃ R, reverseRange d a b = R := ⟨_, rfl⟩
  rw [hR]
  have HR := Lib.hid (show reverseLoop a (b - 1) d = R from hR)
  have HH := Lib.hid hH
  have HA := Lib.hid hA
  have HD := Lib.hid hd
  have HB := Lib.hid (And.intro hab (And.intro hb hsz))
  obtain ⟨N, hN⟩ : ∃ N, D.size = N := ⟨_, rfl⟩
  have HN := Lib.hid hN
  rw [hN]
  have p0 : wrap64 ((b : Int) - 1) = (b : Int) - 1 := by unfold wrap64; omega
  clear hR hH hA hd hab hb hsz hN
  go_enter Tryz.func77, Tryz.ntmps77
  go_wp2
  go_loopw [6, 7] (fun u v wr => RevR W blk off N a b R u v wr) (fun u _ _ => b - (intOf u).toNat)
  case atStart => exact ⟨a, b, d, rfl, by have h1 := HB.out; have h2 : wrap64 ((b : Int) - 1) = (b : Int) - 1 := (by unfold wrap64; omega); rw [h2], Nat.le_refl _, by have := HB.out; have := HN.out; omega, Nat.le_refl _, by rw [HD.out]; exact HN.out, HA.out, HR.out⟩
  case round =>
    obtain ⟨i, k, dk, rfl, rfl, hai, hiN, hkb, hsk, hAk, hO⟩ := hrel
    have HI := Lib.hid (And.intro hai (And.intro hiN (And.intro hkb hsk)))
    have HAk := Lib.hid hAk
    have HO := Lib.hid hO
    clear p0 hai hiN hkb hsk hAk hO
    by_cases hlt : i + 1 < k
    · have HLt := Lib.hid hlt
      obtain ⟨j, hj⟩ : ∃ j, k = j + 1 := ⟨k - 1, by omega⟩
      subst hj
      have ej : ((j + 1 : Nat) : Int) - 1 = (j : Int) := by omega
      rw [ej]
      have q0 : decide ((i : Int) < (j : Int)) = true := by simp; omega
      obtain ⟨G, hG⟩ : ∃ G : Nat → Int, ∀ t, G t = dk[t]! := ⟨fun t => dk[t]!, fun _ => rfl⟩
      have hcw : ∀ t, t < N → wr.cell? ⟨blk, off + t, none⟩ = some (.int .i32 (G t)) := fun t ht => by
        rw [hG]
        exact HAk.out.cell HH.out (by rw [HN.out]; exact HI.out.2.2.2) (by rw [HN.out]; exact ht)
      have hfw : ∀ t, t < N → wr.frozen? ⟨blk, off + t, none⟩ = false := fun t ht => HAk.out.free HH.out (by rw [HN.out]; exact ht)
      have HG := Lib.hid hG
      have hjN : j < N := by have := HI.out; have := HB.out; have := HN.out; omega
      have hij : i < j := by omega
      have hN2 : N < 4611686018427387904 := by have := HB.out; have := HN.out; omega
      clear hG hlt ej
      go_wp2
      go_region
      all_goals go_wp2
      have h3 := HI.out
      have h4 := HB.out
      have h5 := HN.out
      have hw1 : wrap64 ((i : Int) + 1) = ((i + 1 : Nat) : Int) := by unfold wrap64; omega
      have hw2 : wrap64 ((j : Int) - 1) = (j : Int) - 1 := by unfold wrap64; omega
      go_roundw
      case rel =>
        refine ⟨i + 1, j, swp dk i j, by first | rfl | rw [hw1], by first | rfl | rw [hw2], by omega, by omega, by omega, by rw [Go.Sort.size_swp]; exact h3.2.2.2, ?_, ?_⟩
        · rw [HG.out, HG.out]
          exact HAk.out.swap (blk_lt HH.out (t := j) (by omega)) _ (by omega) (by omega)
        · rw [← HO.out]
          exact (rev_go i (j + 1 - 1) dk (by omega)).symm
      case measure => exact meas_s (b := b) (i := i) (by omega)
    · have hge : ¬ (i : Int) < (k : Int) - 1 := by omega
      have q0 : decide ((i : Int) < (k : Int) - 1) = false := by simp; omega
      have HGe := Lib.hid hlt
      clear hlt hge
      go_wp2
      go_end0
      refine ⟨rfl, ?_⟩
      rw [← HO.out, rev_stop _ _ _ (by have := HGe.out; omega)]
      exact HAk.out
end Go.Proofs.YtipigfgnpfhdbaaGreatDoor.Q
namespace Go.Proofs.YtipigfgnpfhdbaaGreatDoor.Q
open Go.RowKit U
open Go.Sort (fixUp fixDown putRow Holds swp ltInt scanSorted shiftDown shiftUp partialIns partialInsertionSort)
set_option linter.unusedVariables false

theorem sub64 {a b m N : Nat} (h : a ≤ b) (hm : b - a = m) (hb : b < N) (h2 : N ≤ 4611686018427387904) : wrap64 ((b : Int) - (a : Int)) = (m : Int) := by unfold wrap64; omega
theorem decw {j N : Nat} (h1 : 1 ≤ j) (h : j < N) (h2 : N < 4611686018427387904) : IntKind.i64.wrap ((j : Int) - 1) = ((j - 1 : Nat) : Int) := by rw [IntKind.wrap_i64]; omega
theorem fixUp_of {b k n : Nat} {d : Array Int} (h : 2 ≤ n) (hn : b - k = n) : fixUp ltInt b k d = shiftUp ltInt b (k + 1) d := if_pos (by omega)
theorem fixUp_not {b k n : Nat} {d : Array Int} (h : ¬ 2 ≤ n) (hn : b - k = n) : fixUp ltInt b k d = d := if_neg (by omega)
theorem fixDown_of {a k m : Nat} {d : Array Int} (h : 2 ≤ m) (hm : k - a = m) : fixDown ltInt a k d = shiftDown ltInt (k - 1) d := if_pos (by omega)
theorem fixDown_not {a k m : Nat} {d : Array Int} (h : ¬ 2 ≤ m) (hm : k - a = m) : fixDown ltInt a k d = d := if_neg (by omega)
def PiO (W : World) (blk off N a b : Nat) (R : Array Int × Bool) (g : Nat) (u v : Value) (wr : World) : Prop := ∃ (i s : Nat) (dk : Array Int), g = 5 - s ∧ u = .int .i64 i ∧ v = .int .i64 s ∧ s ≤ 5 ∧ a < i ∧ i ≤ b ∧ dk.size = N ∧ At W blk off dk wr ∧ partialIns ltInt a b (5 - s) i dk = R
def SsR (W : World) (blk off i b : Nat) (dk : Array Int) (S : Nat) (u : Value) (wr : World) : Prop := ∃ k : Nat, u = .int .i64 k ∧ i ≤ k ∧ k ≤ b ∧ At W blk off dk wr ∧ scanSorted ltInt dk b k = S
def SpR (W : World) (blk off N k : Nat) (R : Array Int) (u : Value) (wr : World) : Prop := ∃ (j : Nat) (dj : Array Int), u = .int .i64 j ∧ j < k ∧ dj.size = N ∧ At W blk off dj wr ∧ shiftDown ltInt j dj = R
def SuR (W : World) (blk off N k b : Nat) (R : Array Int) (u : Value) (wr : World) : Prop := ∃ (j : Nat) (du : Array Int), u = .int .i64 j ∧ k + 1 ≤ j ∧ j ≤ b ∧ du.size = N ∧ At W blk off du wr ∧ shiftUp ltInt b j du = R
set_option maxRecDepth 100000 in
set_option maxHeartbeats 4000000 in
theorem pins_is (blk off cap a b : Nat) (D d : Array Int) (W w : World) (hH : Holds E W blk off D) (hd : d.size = D.size) (hA : At W blk off d w) (hab : a < b) (hb : b ≤ D.size) (hsz : D.size < 4611686018427387904) :
    Calls Tryz.prog 78 #[.slice (some ⟨blk, off, none⟩) D.size cap, .int .i64 a, .int .i64 b] w fun e w' => e = .returned (.bool (partialInsertionSort ltInt d a b).2) ∧ At W blk off (partialInsertionSort ltInt d a b).1 w' := by
  obtain ⟨R, hR⟩ : ∃ R, partialInsertionSort ltInt d a b = R := ⟨_, rfl⟩
  rw [hR]
  obtain ⟨i0, hi⟩ : ∃ i, i = a + 1 := ⟨_, rfl⟩
  have HR := Lib.hid (show partialIns ltInt a b (5 - 0) i0 d = R by rw [hi]; exact hR)
  have HH := Lib.hid hH
  have HA := Lib.hid hA
  have HLs := Lib.hid less_is
  obtain ⟨L, hL⟩ : ∃ L, b - a = L := ⟨_, rfl⟩
  have HL := Lib.hid hL
  have pL : wrap64 ((b : Int) - (a : Int)) = (L : Int) := by unfold wrap64; omega
  clear hL
  have p1 : wrap64 ((a : Int) + 1) = (i0 : Int) := by unfold wrap64; omega
  have HB := Lib.hid (And.intro hab (And.intro hb hsz))
  obtain ⟨N, hN⟩ : ∃ N, D.size = N := ⟨_, rfl⟩
  have HN := Lib.hid (And.intro hN hi)
  have HD := Lib.hid (show d.size = N by omega)
  have hN2 : N < 4611686018427387904 := by omega
  have hbN : b ≤ N := by omega
  rw [hN]
  clear hR hH hA hd hab hb hsz hN hi
  go_enter Tryz.func78, Tryz.ntmps78
  go_wp2
  (try simp only [p1])
  clear p1
  go_loopg [7, 8] 5 (fun g u v wr => PiO W blk off N a b R g u v wr)
  case atStart => exact ⟨i0, 0, d, rfl, rfl, rfl, by omega, by have := HN.out; omega, by have := HN.out; have := HB.out; omega, HD.out, HA.out, HR.out⟩
  case round =>
    obtain ⟨i, s, dk, rfl, rfl, rfl, hs5, hai, hib, hsz, hAk, hO⟩ := hrel
    have HI := Lib.hid (And.intro hs5 (And.intro hai (And.intro hib hsz)))
    have HAk := Lib.hid hAk
    have HO := Lib.hid hO
    clear hs5 hai hib hsz hAk hO HR HA HD
    obtain ⟨G1, hG1⟩ : ∃ G1 : Nat → Int, ∀ t, G1 t = dk[t]! := ⟨fun t => dk[t]!, fun _ => rfl⟩
    have HG := Lib.hid hG1
    have hfam : ∀ w1, At W blk off dk w1 → ∀ t, t < N → w1.cell? ⟨blk, off + t, none⟩ = some (.int .i32 (G1 t)) := fun w1 h t ht => by
      rw [hG1]
      exact h.cell HH.out (by rw [HN.out.1]; exact HI.out.2.2.2) (by rw [HN.out.1]; exact ht)
    have hfre : ∀ w1, At W blk off dk w1 → ∀ t, t < N → w1.frozen? ⟨blk, off + t, none⟩ = false := fun w1 h t ht => h.free HH.out (by rw [HN.out.1]; exact ht)
    have HFam := Lib.hid (And.intro hfam hfre)
    have hfamG : ∀ w1 (dx : Array Int), dx.size = N → At W blk off dx w1 → ∀ t, t < N → w1.cell? ⟨blk, off + t, none⟩ = some (.int .i32 dx[t]!) := fun w1 dx hx h t ht => h.cell HH.out (by rw [HN.out.1]; exact hx) (by rw [HN.out.1]; exact ht)
    have hfreG : ∀ w1 (dx : Array Int), At W blk off dx w1 → ∀ t, t < N → w1.frozen? ⟨blk, off + t, none⟩ = false := fun w1 dx h t ht => h.free HH.out (by rw [HN.out.1]; exact ht)
    have HFamG := Lib.hid (And.intro hfamG hfreG)
    clear hfam hfre hG1 hfamG hfreG
    by_cases hs : s < 5
    · have q5 : decide ((s : Int) < 5) = true := by simp; omega
      have HSt := Lib.hid hs
      clear hs
      obtain ⟨S, hS⟩ : ∃ S, scanSorted ltInt dk b i = S := ⟨_, rfl⟩
      have HS := Lib.hid hS
      clear hS
      go_wp2
      go_loopw [7] (fun u wr2 => SsR W blk off i b dk S u wr2) (fun u _ => b - (intOf u).toNat)
      case atStart => exact ⟨i, rfl, Nat.le_refl _, HI.out.2.2.1, HAk.out, HS.out⟩
      case round =>
        obtain ⟨k, rfl, hik, hkb', hAi, hsc⟩ := hrel
        have HJ := Lib.hid (And.intro hik hkb')
        have HAi := Lib.hid hAi
        have HSc := Lib.hid hsc
        clear hik hAi hsc
        have hcw := HFam.out.1 wr HAi.out
        have hk1 : 1 ≤ k := by have := HI.out; have := HJ.out; omega
        by_cases hkb : k < b
        · have hkN : k < N := by omega
          have HKb := Lib.hid hkb
          go_wp2_with fail
          go_quiet (first | (go_at_call 79; refine Calls.quiet_of_same (HLs.out _ _ _)))
          go_wp2
          · have ht : (!ltInt (G1 k) (G1 (k - 1))) = true := by assumption
            have hw := inc64 hkN hN2
            go_roundw
            case rel =>
              refine ⟨k + 1, by first | rfl | rw [hw], by have := HJ.out; omega, by omega, HAi.out.drew nq, ?_⟩
              rw [← HSc.out, Go.Proofs.scanSorted_go ltInt dk b k HKb.out (by rw [← HG.out, ← HG.out]; simpa using ht)]
            case measure => first | exact meas_r (b := b) (by omega) hw | exact meas_s (b := b) (by omega)
          · have hA3 := HAi.out.drew nq
            have hS2 : scanSorted ltInt dk b i = k := by
              rw [HS.out, ← HSc.out, Go.Proofs.scanSorted_stop ltInt dk b k (Or.inr (by rw [← HG.out, ← HG.out]; have ht : (!ltInt (G1 k) (G1 (k - 1))) = false := by assumption
                                                                                        simpa using ht))]
            have hr := Go.Proofs.pi_short ltInt a b s i dk HSt.out (by rw [hS2]; omega) (by have := HL.out; omega)
            have Hr := Lib.hid (HO.out.symm.trans hr)
            have HA3 := Lib.hid hA3
            clear hr hA3 hS2
            go_ret
            rw [Hr.out]
            exact ⟨rfl, HA3.out⟩
          · have hA3 := HAi.out.drew nq
            have hS2 : scanSorted ltInt dk b i = k := by
              rw [HS.out, ← HSc.out, Go.Proofs.scanSorted_stop ltInt dk b k (Or.inr (by rw [← HG.out, ← HG.out]; have ht : (!ltInt (G1 k) (G1 (k - 1))) = false := by assumption
                                                                                        simpa using ht))]
            have hgo := Go.Proofs.pi_go ltInt a b s i k dk HSt.out hS2 (by omega) (by have := HL.out; omega)
            rw [HO.out] at hgo
            clear hS2 hcw
            generalize wr.drewN nq = W3 at hA3 ⊢
            have hcw := HFam.out.1 W3 hA3
            have hfw := HFam.out.2 W3 hA3
            have HA3 := Lib.hid hA3
            obtain ⟨m, hm⟩ : ∃ m, k - a = m := ⟨_, rfl⟩
            obtain ⟨n, hn⟩ : ∃ n, b - k = n := ⟨_, rfl⟩
            have Hm := Lib.hid hm
            have Hn := Lib.hid hn
            have hak : a ≤ k := by have := HI.out; have := HJ.out; omega
            have pm := sub64 hak hm hkN (Nat.le_of_lt hN2)
            have pn := sub64 (Nat.le_of_lt HKb.out) hn (Nat.lt_succ_of_le hbN) hN2
            obtain ⟨d1, hd1⟩ : ∃ d1, swp dk k (k - 1) = d1 := ⟨_, rfl⟩
            rw [hd1] at hgo
            have HGo := Lib.hid hgo.symm
            have hA4 := (HA3.out.swap (blk_lt HH.out (t := k) (by rw [HN.out.1]; exact hkN)) 0 (j := k) (k := k - 1) (by rw [HI.out.2.2.2]; exact hkN) (by rw [HI.out.2.2.2]; omega)).drew1
            rw [hd1, ← HG.out, ← HG.out] at hA4
            have HD1 := Lib.hid (And.intro (show d1.size = N by rw [← hd1, Go.Sort.size_swp]; exact HI.out.2.2.2) hA4)
            clear hgo hA3 hm hn hd1 hA4 hak
            go_wp2_with fail
            go_region
            obtain ⟨mm, qm⟩ : ∃ mm, decide ((2 : Int) ≤ (m : Int)) = mm := ⟨_, rfl⟩
            go_upto_if 61 with fail
            have Hmm := Lib.hid qm
            clear qm
            have hw5 := inc64 (n := s) (N := 5) HSt.out (by omega)
            go_cut [] from 13 to 132 (fun wc => ∃ dv : Array Int, dv.size = N ∧ At W blk off dv wc ∧ partialIns ltInt a b (5 - (s + 1)) k (fixUp ltInt b k dv) = R)
            case first =>
              cases mm with
              | true =>
                have hm2 : 2 ≤ m := by have := Hmm.out; simp at this; omega
                have HM2 := Lib.hid hm2
                clear hm2
                obtain ⟨V, hV⟩ : ∃ V, shiftDown ltInt (k - 1) d1 = V := ⟨_, rfl⟩
                have HVd := Lib.hid hV
                clear hV
                have hwk1 := dec64 hk1 hkN hN2
                go_wp2
                go_loopw [9] (fun u wr2 => SpR W blk off N k V u wr2) (fun u _ => (intOf u).toNat)
                case atStart => exact ⟨k - 1, d1, by first | rfl | rw [hwk1] | (congr 1; omega), by omega, HD1.out.1, HD1.out.2, HVd.out⟩
                case round =>
                  obtain ⟨j, dj, rfl, hjk, hsj, hAj, hVr⟩ := hrel
                  have HJj := Lib.hid (And.intro hjk hsj)
                  have HAj := Lib.hid hAj
                  have HVr := Lib.hid hVr
                  clear hsj hVr hAj
                  obtain ⟨G2, hG2⟩ : ∃ G2 : Nat → Int, ∀ t, G2 t = dj[t]! := ⟨fun t => dj[t]!, fun _ => rfl⟩
                  have hcw := HFamG.out.1 wr dj HJj.out.2 HAj.out
                  have hfw := HFamG.out.2 wr dj HAj.out
                  simp only [← hG2] at hcw
                  have HG2 := Lib.hid hG2
                  clear hG2
                  have hjN : j < N := by omega
                  by_cases hj1 : 1 ≤ j
                  · have qj : decide ((1 : Int) ≤ (j : Int)) = true := by simp; omega
                    go_wp2_with fail
                    go_quiet (first | (go_at_call 79; refine Calls.quiet_of_same (HLs.out _ _ _)))
                    go_wp2_with fail
                    · have ht : (!ltInt (G2 j) (G2 (j - 1))) = true := by assumption
                      have hst : dj = V := by rw [← HVr.out, Go.Proofs.shiftDown_stop ltInt j dj (Or.inr (by rw [← HG2.out, ← HG2.out]; simpa using ht))]
                      have hA6 := HAj.out.drew nq
                      have hsz6 := HJj.out.2
                      rw [hst] at hA6 hsz6
                      have HX := Lib.hid (And.intro hsz6 (And.intro hA6 (show partialIns ltInt a b (5 - (s + 1)) k (fixUp ltInt b k V) = R by rw [← HVd.out, ← HGo.out, fixDown_of HM2.out Hm.out])))
                      clear hA6 hsz6 hst ht hcw hfw
                      go_meet
                      case rel => exact ⟨V, HX.out⟩
                    · have ht : (!ltInt (G2 j) (G2 (j - 1))) = false := by assumption
                      go_wp2_with fail
                      go_region
                      all_goals go_wp2_with fail
                      all_goals go_wp2_with fail
                      go_roundw
                      case rel =>
                        refine ⟨j - 1, swp dj j (j - 1), by first | rfl | (congr 1; omega), by omega, by rw [Go.Sort.size_swp]; exact HJj.out.2, ?_, ?_⟩
                        · rw [HG2.out, HG2.out]
                          exact HAj.out.swap (blk_lt HH.out (t := j) (by rw [HN.out.1]; exact hjN)) (nq + 1) (by have := HJj.out; omega) (by have := HJj.out; omega)
                        · rw [← HVr.out, Go.Proofs.shiftDown_go ltInt j dj hj1 (by rw [← HG2.out, ← HG2.out]; simpa using ht)]
                      case measure => simp [intOf]; omega
                  · have qj : decide ((1 : Int) ≤ (j : Int)) = false := by simp; omega
                    have hst : dj = V := by rw [← HVr.out, Go.Proofs.shiftDown_stop ltInt j dj (Or.inl (by omega))]
                    have hA6 := HAj.out
                    have hsz6 := HJj.out.2
                    rw [hst] at hA6 hsz6
                    have HX := Lib.hid (And.intro hsz6 (And.intro hA6 (show partialIns ltInt a b (5 - (s + 1)) k (fixUp ltInt b k V) = R by rw [← HVd.out, ← HGo.out, fixDown_of HM2.out Hm.out])))
                    clear hA6 hsz6 hst hcw hfw
                    go_wp2_with fail
                    go_meet
                    case rel => exact ⟨V, HX.out⟩
              | false =>
                have hm2 : ¬ 2 ≤ m := by have := Hmm.out; simp at this; omega
                have HX := Lib.hid (And.intro HD1.out.1 (And.intro HD1.out.2 (show partialIns ltInt a b (5 - (s + 1)) k (fixUp ltInt b k d1) = R by rw [← HGo.out, fixDown_not hm2 Hm.out])))
                clear hm2
                go_wp2_with fail
                go_meet
                case rel => exact ⟨d1, HX.out⟩
            case rest =>
              obtain ⟨dv, hVs, hV, hRv⟩ := hcut
              have HVs := Lib.hid hVs
              have HV := Lib.hid hV
              have HRv := Lib.hid hRv
              clear hVs hV hRv hcw hfw pm
              by_cases hn2 : 2 ≤ n
              · have qn : decide ((2 : Int) ≤ (n : Int)) = true := by simp; omega
                have qn2 : decide ((2 : Int) ≤ (b : Int) - (k : Int)) = true := by have := Hn.out; simp; omega
                have qn3 : (2 : Int) ≤ (b : Int) - (k : Int) := by have := Hn.out; omega
                obtain ⟨U, hU⟩ : ∃ U, shiftUp ltInt b (k + 1) dv = U := ⟨_, rfl⟩
                have HU := Lib.hid hU
                have HN2 := Lib.hid hn2
                clear hU hn2
                have hwk := inc64 hkN hN2
                go_wp2
                go_loopw [10] (fun u wr2 => SuR W blk off N k b U u wr2) (fun u _ => b - (intOf u).toNat)
                case atStart => exact ⟨k + 1, dv, by first | rfl | rw [hwk] | (congr 1; omega), Nat.le_refl _, by have := HN2.out; have := Hn.out; omega, HVs.out, HV.out, HU.out⟩
                case round =>
                  obtain ⟨j, du, rfl, hkj, hjb, hsu, hAu, hUr⟩ := hrel
                  have HJj := Lib.hid (And.intro hkj (And.intro hjb hsu))
                  have HAu := Lib.hid hAu
                  have HUr := Lib.hid hUr
                  clear hsu hUr hAu
                  obtain ⟨G3, hG3⟩ : ∃ G3 : Nat → Int, ∀ t, G3 t = du[t]! := ⟨fun t => du[t]!, fun _ => rfl⟩
                  have hcw := HFamG.out.1 wr du HJj.out.2.2 HAu.out
                  have hfw := HFamG.out.2 wr du HAu.out
                  simp only [← hG3] at hcw
                  have HG3 := Lib.hid hG3
                  clear hG3
                  have hj1 : 1 ≤ j := by omega
                  have HXX := Lib.hid (And.intro hkb' (And.intro hkj hjb))
                  by_cases hjlt : j < b
                  · have qj : decide ((j : Int) < (b : Int)) = true := by simp; omega
                    have qj2 : decide (j < b) = true := by simp; omega
                    have hjN : j < N := Nat.lt_of_lt_of_le hjlt hbN
                    have HJl := Lib.hid hjlt
                    clear hjlt hkb' hkj hjb hbN hkN hk1 qn qn2 qn3 pn hwk
                    go_wp2_with fail
                    go_quiet (first | (go_at_call 79; refine Calls.quiet_of_same (HLs.out _ _ _)))
                    go_wp2_with fail
                    · have ht : (!ltInt (G3 j) (G3 (j - 1))) = true := by assumption
                      have hst : du = U := by rw [← HUr.out, Go.Proofs.shiftUp_stop ltInt b j du (Or.inr (by rw [← HG3.out, ← HG3.out]; simpa using ht))]
                      have HSt2 := Lib.hid hst
                      clear hst
                      go_roundg (5 - (s + 1))
                      case measure => have := HSt.out; omega
                      case rel =>
                        refine ⟨k, s + 1, U, rfl, rfl, by first | rfl | rw [hw5] | (congr 1; omega), by have := HSt.out; omega, by have := HI.out; have := HJ.out; omega, HXX.out.1, by rw [← HSt2.out]; exact HJj.out.2.2, by rw [← HSt2.out]; exact HAu.out.drew nq, ?_⟩
                        rw [← HRv.out]
                        rw [fixUp_of HN2.out Hn.out, HU.out]
                    · have ht : (!ltInt (G3 j) (G3 (j - 1))) = false := by assumption
                      have hwj := inc64 hjN hN2
                      go_wp2_with fail
                      go_region
                      all_goals go_wp2_with fail
                      all_goals go_wp2_with fail
                      go_roundw
                      case rel =>
                        refine ⟨j + 1, swp du j (j - 1), by first | rfl | rw [hwj] | (congr 1; omega), by have := HXX.out; omega, by have := HJl.out; omega, by rw [Go.Sort.size_swp]; exact HJj.out.2.2, ?_, ?_⟩
                        · rw [HG3.out, HG3.out]
                          exact HAu.out.swap (blk_lt HH.out (t := j) (by rw [HN.out.1]; exact hjN)) (nq + 1) (by have := HJj.out; omega) (by have := HJj.out; omega)
                        · rw [← HUr.out, Go.Proofs.shiftUp_go ltInt b j du HJl.out (by rw [← HG3.out, ← HG3.out]; simpa using ht)]
                      case measure => first | exact meas_r (b := b) HJl.out hwj | exact meas_s (b := b) HJl.out
                  · have qj : decide ((j : Int) < (b : Int)) = false := by simp; omega
                    have qj2 : decide (j < b) = false := by simp; omega
                    have hst : du = U := by rw [← HUr.out, Go.Proofs.shiftUp_stop ltInt b j du (Or.inl hjlt)]
                    have HSt2 := Lib.hid hst
                    clear hst hkb' hkj hjb hbN hkN hk1 qn qn2 qn3 pn hwk hcw hfw hj1
                    go_wp2_with fail
                    go_roundg (5 - (s + 1))
                    case measure => have := HSt.out; omega
                    case rel =>
                      refine ⟨k, s + 1, U, rfl, rfl, by first | rfl | rw [hw5] | (congr 1; omega), by have := HSt.out; omega, by have := HI.out; have := HJ.out; omega, HXX.out.1, by rw [← HSt2.out]; exact HJj.out.2.2, by rw [← HSt2.out]; exact HAu.out, ?_⟩
                      rw [← HRv.out]
                      rw [fixUp_of HN2.out Hn.out, HU.out]
              · have qn : decide ((2 : Int) ≤ (n : Int)) = false := by simp; omega
                have qn2 : decide ((2 : Int) ≤ (b : Int) - (k : Int)) = false := by have := Hn.out; have := HKb.out; simp; omega
                have qn3 : ¬ (2 : Int) ≤ (b : Int) - (k : Int) := by have := Hn.out; have := HKb.out; omega
                have HN2 := Lib.hid hn2
                clear hn2
                go_wp2
                go_roundg (5 - (s + 1))
                case measure => have := HSt.out; omega
                case rel =>
                  refine ⟨k, s + 1, dv, rfl, rfl, by first | rfl | rw [hw5] | (congr 1; omega), by have := HSt.out; omega, by have := HI.out; have := HJ.out; omega, hkb', HVs.out, HV.out, ?_⟩
                  rw [← HRv.out]
                  rw [fixUp_not HN2.out Hn.out]
        · have hr := Go.Proofs.pi_true ltInt a b s i dk HSt.out (by rw [HS.out, ← HSc.out, Go.Proofs.scanSorted_stop ltInt dk b k (Or.inl hkb)]; omega)
          have Hr := Lib.hid (HO.out.symm.trans hr)
          have qkb : decide ((k : Int) < (b : Int)) = false := by simp; omega
          have qeq : ((k : Int) == (b : Int)) = true := by simp; omega
          clear hr
          go_wp2_with fail
          go_quiet (first | (go_at_call 79; refine Calls.quiet_of_same (HLs.out _ _ _)))
          have HA3 := Lib.hid (HAi.out.drew nq)
          go_wp2
          go_ret
          rw [Hr.out]
          exact ⟨rfl, HA3.out⟩
    · have q5 : decide ((s : Int) < 5) = false := by simp; omega
      obtain rfl : s = 5 := by have := HI.out; omega
      have Hr := Lib.hid (HO.out.symm.trans (Go.Proofs.pi_end ltInt a b i dk))
      go_wp2
      go_ret
      rw [Hr.out]
      exact ⟨rfl, HAk.out⟩
end Go.Proofs.YtipigfgnpfhdbaaGreatDoor.Q
namespace Go.Proofs.YtipigfgnpfhdbaaGreatDoor.Q
open Go.RowKit U
open Go.Sort (Below pdq ltInt Holds bitsLen bitsLen_le_iff PermIn SortedIn)
set_option linter.unusedVariables false

theorem len_is (n : Nat) (hn : n < 4611686018427387904) (w : World) : Calls Tryz.prog 51 #[.int .u64 (n : Int)] w fun e w' => e = .returned (.int .i64 (bitsLen n : Nat)) ∧ w' = w := by
  have h := Any.bits_Len (SlLaysF0.n15.bits (P := Tryz.prog) (ρ := G.sortLay_ren) { G.sortLay with }) (n : Int) w (by omega) (by omega)
  rw [Int.toNat_natCast, bitLen_eq _ (by omega)] at h
  exact h
theorem pdq_is (blk off cap : Nat) (D d : Array Int) (W w : World) (limit : Nat) (hH : Holds E W blk off D) (hd : d.size = D.size) (hA : At W blk off d w) (hsz : D.size < 1152921504606846976) (hblk : blk < W.heap.size) (hl : limit < 4611686018427387904) :
    Calls Tryz.prog 50 #[.slice (some ⟨blk, off, none⟩) D.size cap, .int .i64 0, .int .i64 (D.size : Int), .int .i64 limit] w (Done (At W blk off) (pdq ltInt d 0 D.size limit true true)) := by
  have hz : D.size < 4611686018427387904 := by omega
  exact pdq_walk (At W blk off) blk off cap D.size hsz (Lib.hid fun d w q h => h.drew q) (Lib.hid fun dk w1 hs h => ⟨fun t ht => h.cell hH hs ht, fun t ht => h.free hH ht⟩)
    (Lib.hid fun a b d w h1 h2 h3 h4 => ins_is blk off cap a b D d W w hH h1 h2 h3 h4 hz)
    (Lib.hid fun a b d w h1 h2 h3 h4 => heap_is blk off cap a b D d W w hH h1 h2 h3 h4 hsz)
    (Lib.hid fun a b d w h1 h2 h3 h4 => brk_is blk off cap a b D d W w hH h1 h2 h3 h4 hsz hblk)
    (Lib.hid fun a b d w h1 h2 h3 h4 => rev_is blk off cap a b D d W w hH h1 h2 h3 h4 hz)
    (Lib.hid fun a b d w h1 h2 h3 h4 => pivot_is blk off cap a b D d W w hH h1 h2 h3 h4 hsz)
    (Lib.hid fun a b d w h1 h2 h3 h4 => pins_is blk off cap a b D d W w hH h1 h2 h3 h4 hz)
    (Lib.hid fun a b p d w h1 h2 h3 h4 h5 => parteq_is blk off cap a b p D d W w hH h1 h2 h3 h4 h5 hz)
    (Lib.hid fun a b p d w h1 h2 h3 h4 h5 => part_is blk off cap a b p D d W w hH h1 h2 h3 h4 h5 hz)
    (D.size + 1) 0 D.size limit d w (by omega) hd hA (Nat.zero_le _) (Nat.le_refl _) hl (Or.inl rfl)
/-- The numbers, rising. -/
def Srt (l l' : List Int) : Prop := l'.Perm l ∧ l'.Pairwise (· ≤ ·)
set_option maxRecDepth 100000 in
theorem sort_is (blk off cap : Nat) (d : Array Int) (W : World) (hH : Holds E W blk off d) (hsz : d.size < 1152921504606846976) (hblk : blk < W.heap.size) :
    Calls Tryz.prog 30 #[.slice (some ⟨blk, off, none⟩) d.size cap] W fun e w' => e = .returned (.tuple #[]) ∧ ∃ d' : Array Int, d'.size = d.size ∧ PermIn 0 d.size d d' ∧ SortedIn ltInt 0 d.size d' ∧ At W blk off d' w' := by
  have HL := Lib.hid (fun w => len_is d.size (by omega) w)
  have hk : bitsLen d.size ≤ 62 := (bitsLen_le_iff d.size 62).2 (by omega)
  have HPq := Lib.hid (fun w h => pdq_is blk off cap d d W w (bitsLen d.size) hH rfl h hsz hblk (by omega))
  have HS := Lib.hid (At.start hH)
  have HI := Lib.hid (pdqI d 0 d.size (bitsLen d.size) true true (Nat.zero_le _) (Nat.le_refl _) (Or.inl rfl))
  have pu : IntKind.u64.wrap (d.size : Int) = (d.size : Int) := by rw [IntKind.wrap_u64]; omega
  clear hH hsz hblk hk
  go_enter Tryz.func30, Tryz.ntmps30
  go_wp2_with (first
    | (go_at_call 51; (with_reducible refine (HL.out _).mono ?_); rintro e w' ⟨rfl, rfl⟩)
    | (go_at_call 50; (with_reducible refine (HPq.out _ HS.out).mono ?_); rintro e w' ⟨rfl, hA⟩))
  go_end0
  exact ⟨rfl, _, HI.out.1.1, HI.out.1, HI.out.2, hA⟩
end Go.Proofs.YtipigfgnpfhdbaaGreatDoor.Q
namespace Go.Proofs.YtipigfgnpfhdbaaGreatDoor.G
open Go.RowKit Go.Shelf U M
open Go.Sort (PermIn SortedIn ltInt putRow grow putCells mapBlock onCells)
set_option linter.unusedVariables false

theorem holds32 {w : World} {g : Nat} {cur : Array Value} {e : TypeId} {ss : List Int} (hb : w.heap[g]? = some (.cells cur e (0, 0))) (ht : cur.toList.take ss.length = ss.map (Value.int .i32)) : Go.Sort.Holds Q.E w g 0 ss.toArray := by
  intro j hj
  have hj' : j < ss.length := by simpa using hj
  refine ⟨?_, by simp [World.frozen?, hb]⟩
  have h1 : (cur.toList.take ss.length)[j]? = (ss.map (Value.int .i32))[j]? := by rw [ht]
  rw [List.getElem?_take_of_lt hj'] at h1
  simp only [World.cell?, hb, Nat.zero_add]
  simp only [Option.isSome_none, Bool.false_eq_true, if_false]
  rw [← Array.getElem?_toList, h1]
  simp [hj']
theorem heap_sorted32 {w : World} {g n : Nat} {os : Array Obj} {cur : Array Value} {e : TypeId} {fr : Nat × Nat} (d : Array Int) (hb : w.heap[g]? = some (.cells cur e fr)) :
    (grow (putRow Q.E (Go.Sort.ahead w n) g 0 d) os).heap[g]? = some (.cells (putCells Q.E 0 d cur) e fr) := by
  have hg : g < w.heap.size := (Array.getElem?_eq_some_iff.1 hb).1
  rw [Go.Sort.heap_grow_old _ _ (by simpa using hg)]
  simp [putRow, mapBlock, Go.Sort.ahead, Array.getElem?_modify, hb, onCells]
theorem below_sorted32 {w w0 : World} {g n : Nat} {os : Array Obj} (d : Array Int) (hB : Bel w0 w) (hg : w0.heap.size ≤ g) : Bel w0 (grow (putRow Q.E (Go.Sort.ahead w n) g 0 d) os) := by
  have h2 : Below w0.heap.size w (grow (putRow Q.E (Go.Sort.ahead w n) g 0 d) os) := by
    refine ⟨rfl, rfl, rfl, by simp, fun k hk => ?_⟩
    have hk2 : k < w.heap.size := Nat.lt_of_lt_of_le hk (Below.size hB)
    rw [Go.Sort.heap_grow_old _ _ (by simpa using hk2)]
    have : g ≠ k := by omega
    simp [putRow, mapBlock, Go.Sort.ahead, Array.getElem?_modify, this]
  exact Below.trans hB h2
theorem take_put32 (cur : Array Value) (ts : List Int) (h : ts.length ≤ cur.size) : (putCells Q.E 0 ts.toArray cur).toList.take ts.length = ts.map (Value.int .i32) := by
  apply List.ext_getElem?
  intro j
  by_cases hj : j < ts.length
  · rw [List.getElem?_take_of_lt hj, Array.getElem?_toList]
    simp [putCells, hj, show j < cur.size by omega]
  · rw [List.getElem?_take_eq_none (by omega), List.getElem?_eq_none (by simp; omega)]
theorem perm_of {d d' : Array Int} (h : PermIn 0 d.size d d') : d'.toList.Perm d.toList := by
  have h3 := h.2.2
  rw [Array.extract_size] at h3
  rw [← h.1, Array.extract_size] at h3
  exact h3
theorem pw_of {d : Array Int} (h : SortedIn ltInt 0 d.size d) : d.toList.Pairwise (· ≤ ·) := by
  rw [List.pairwise_iff_getElem]
  intro i j hi hj hij
  have h1 := h i j (Nat.zero_le _) hij (by simpa using hj)
  have hi' : i < d.size := by simpa using hi
  have hj' : j < d.size := by simpa using hj
  rw [getElem!_pos d j hj', getElem!_pos d i hi'] at h1
  unfold ltInt at h1
  simp only [decide_eq_false_iff_not] at h1
  simp only [Array.getElem_toList]
  omega
theorem nodup_sub_len {α : Type} {l m : List α} (h : l.Nodup) (hs : ∀ x ∈ l, x ∈ m) : l.length ≤ m.length := List.Nodup.length_le_of_subset h hs
theorem own_base {w : World} {b b' : Nat} {e : TypeId} {k z : Nat} {v : Value} {xs : List Value} (h : w.ownsRow b e z v k xs) (hb : b' ≤ b) : w.ownsRow b' e z v k xs := by
  refine ⟨h.1, ?_⟩
  rcases h.2 with h0 | ⟨g, cap, cur, hv, hbg, rest⟩
  · exact .inl h0
  · exact .inr ⟨g, cap, cur, hv, by omega, rest⟩
def SortedPost (Fin : List Gr → Prop) (w : World) (e : Ending) (w' : World) : Prop := ∃ v tb l, e = .returned v ∧ Fin tb ∧ List.Perm l (tb.map (·.1)) ∧ l.Pairwise (· ≤ ·) ∧ w'.ownsRow w.heap.size 21 1 v l.length (l.map (Value.int .i32)) ∧ Bel w w'
set_option maxRecDepth 100000 in
set_option maxHeartbeats 1000000 in
theorem sorted_is {Ok : List Gr → Gr → Prop} {Fin : List Gr → Prop} {gf : Nat} {lb : Array Value} {Z : World → Prop} (w : World) (eg : ∀ args w, (callFunc gf args).run Tryz.prog w = .ok (.enter gf args) w)
    (hseq : SeqW Tryz.prog (fun x : Gr => #[.int .i32 x.1]) Ok Fin gf #[] lb Z) (hZ : ∀ W, Bel w W → Z W) (hlen : ∀ pre x, Ok pre x → pre.length ≤ 200000) (hfin : ∀ tb, Fin tb → tb ≠ [] ∧ tb.length ≤ 200000) :
    Calls Tryz.prog 16 #[.func (.func gf) #[] lb] w (SortedPost Fin w) := by
  have HA := Lib.hid (collect_is w eg hseq hZ hlen)
  have HF := Lib.hid hfin
  clear eg hseq hZ hlen hfin
  go_enter Tryz.func16, Tryz.ntmps16
  go_wp2_with (go_at_call 29; (with_reducible refine HA.out.mono ?_); rintro e W ⟨v, tb, rfl, hT, hrow, hB⟩; have HT := Lib.hid hT; have HRow := Lib.hid hrow; have HB := Lib.hid hB; clear hT hrow hB)
  rcases HRow.out.2 with ⟨rfl, h0⟩ | ⟨g, cap, cur, rfl, hbg, hgb, r1, r2, r3, r4⟩
  · exact absurd (List.eq_nil_of_length_eq_zero h0) (HF.out _ HT.out).1
  · obtain ⟨ss, hss⟩ : ∃ ss, tb.map (·.1) = ss := ⟨_, rfl⟩
    rw [hss] at r4
    have hl : ss.length = tb.length := by rw [← hss, List.length_map]
    have hlt := (HF.out _ HT.out).2
    have hgl : g < W.heap.size := (Array.getElem?_eq_some_iff.1 hgb).1
    have hc := Q.sort_is g 0 cap ss.toArray W (holds32 hgb (by rw [hl]; simpa using r4)) (by simp; omega) hgl
    rw [show ss.toArray.size = tb.length by simpa using hl] at hc
    have Hc := Lib.hid hc
    have HR := Lib.hid (And.intro hbg (And.intro hgb (And.intro r1 (And.intro r2 (And.intro r3 (And.intro hss hl))))))
    clear hc hbg hgb r1 r2 r3 r4 hss hl hlt hgl
    go_wp2_with (go_at_call 30; (with_reducible refine Hc.out.mono ?_); rintro e w2 ⟨rfl, d', hs, hp, hso, n, os, rfl⟩; have HS := Lib.hid (And.intro hs (And.intro hp hso)); clear hs hp hso)
    go_ret
    obtain ⟨hbg, hgb, r1, r2, r3, hss, hl⟩ := HR.out
    obtain ⟨hs, hp, hso⟩ := HS.out
    have hdl : d'.toList.length = tb.length := by simpa using hs
    have hpp := perm_of (d := ss.toArray) (d' := d') (by rw [show ss.toArray.size = tb.length by simpa using hl]; exact hp)
    refine ⟨_, tb, d'.toList, rfl, HT.out, by rw [hss]; exact hpp, pw_of (by rw [hs]; exact hso), ?_, below_sorted32 d' HB.out hbg⟩
    rw [hdl]
    refine ⟨by simpa using hs, .inr ⟨g, cap, _, rfl, hbg, heap_sorted32 d' hgb, r1, r2, by simp [putCells, r3], ?_⟩⟩
    rw [Nat.mul_one, ← hdl]
    exact take_put32 cur d'.toList (by rw [hdl, r3]; omega)
/-- What Known answers. -/
def KnownPost (w : World) (e : Ending) (w' : World) : Prop := ∃ (v : Value) (l : List Int), e = .returned v ∧ w'.ownsRow w.heap.size 21 1 v l.length (l.map (Value.int .i32)) ∧ Bel w w' ∧ l.Pairwise (· < ·) ∧ ∀ r, r ∈ l ↔ Known r
theorem known_list {G : List Gr} {n B : Nat} {w : World} {l : List Int} {tb : List Gr} (hG : Backed (forthL everyL 12) G) (hM : MapIs Tryz.prog 21 w B n fg G) (hp : tb.Perm G) (hl : List.Perm l (tb.map (·.1))) (hs : l.Pairwise (· ≤ ·)) :
    l.Pairwise (· < ·) ∧ ∀ r, r ∈ l ↔ Known r := by
  have hl2 : l.Perm (G.map (·.1)) := hl.trans (hp.map _)
  have hnd : (G.map (·.1)).Nodup := by
    have h := hM.nodup
    rw [List.nodup_iff_pairwise_ne, List.pairwise_map] at h ⊢
    exact h.imp fun hne e => hne (by show rnV _ = rnV _; unfold rnV; rw [e])
  have hnl : l.Nodup := hl2.nodup_iff.2 hnd
  refine ⟨?_, fun r => ?_⟩
  · rw [List.nodup_iff_pairwise_ne] at hnl
    exact (hs.and hnl).imp fun ⟨h1, h2⟩ => by omega
  · rw [hl2.mem_iff, List.mem_map]
    constructor
    · rintro ⟨x, hx, rfl⟩
      obtain ⟨⟨L, hL, he⟩, hne⟩ := hG.1 x hx
      obtain ⟨c, hc⟩ := List.exists_mem_of_ne_nil _ hne
      rw [he] at hc
      have hc2 := (sortC_perm _).mem_iff.1 hc
      obtain ⟨h1, h2⟩ := List.mem_filter.1 hc2
      exact ⟨c, hL.mem_iff.1 h1, by simpa using h2⟩
    · rintro ⟨c, hc, rfl⟩
      obtain ⟨x, hx, e⟩ := hG.2 c hc
      exact ⟨x, hx, e⟩
theorem enters_keys : ∀ args w, (callFunc 31 args).run Tryz.prog w = .ok (.enter 31 args) w := enters_of Tryz.func31 (by kernel_rfl) rfl
theorem every_len : (forthL everyL 12).length ≤ 200000 := by
  have h := forth_len (nums := everyL) (j := 12) (by omega) (fun s h1 h2 => everyL_len s)
  omega
theorem keysOf_len {G : List Gr} {D : List Cd} (hG : Backed D G) (hnd : (G.map (·.1)).Nodup) : G.length ≤ D.length := by
  have hsub : ∀ r ∈ G.map (·.1), r ∈ D.map rn := fun r hr => by
    obtain ⟨x, hx, rfl⟩ := List.mem_map.1 hr
    obtain ⟨⟨L, hL, he⟩, hne⟩ := hG.1 x hx
    obtain ⟨c, hc⟩ := List.exists_mem_of_ne_nil _ hne
    rw [he] at hc
    have hc2 := (sortC_perm _).mem_iff.1 hc
    obtain ⟨h1, h2⟩ := List.mem_filter.1 hc2
    exact List.mem_map.2 ⟨c, hL.mem_iff.1 h1, by simpa using h2⟩
  have := nodup_sub_len hnd hsub
  simpa using this
/-- What glyph.Known asks of the listed variables. -/
def Gk (w : World) : Prop := Tz w ∧ Rw w
theorem Gk.bel {w w' : World} (h : Gk w) (hb : Bel w w') : Gk w' := by
  refine ⟨h.1.bel hb, fun i z hz => ?_⟩
  have c := h.2 i z hz
  exact (Below.cell hb (p := ⟨0, i, none⟩) (cell_block c)).trans c
set_option maxRecDepth 100000 in
set_option maxHeartbeats 1000000 in
theorem known_isk (w : World) (hG : Gk w) : Calls Tryz.prog 6 #[] w (KnownPost w) := by
  have HFo := Lib.hid (forth_is 20 #[] everyL w enters13 hG.1 (fun s _ _ => everyL_ok s) (fun s h1 h2 w' hb => every_is s w' (hG.bel hb).2))
  have HKl := Lib.hid (fun B w => keys_make B w)
  clear hG
  go_enter Tryz.func6, Tryz.ntmps6
  go_wp2_with (go_at_call 19; (with_reducible refine HFo.out.mono ?_); rintro e w1 ⟨rfl, hM, hB⟩; have HB1 := Lib.hid hB; have HBk := Lib.hid (back_is w.heap.size _ (forthL everyL 12) w1 hM (fun c hc => by have := forth_fit hc; omega) every_len); clear hM hB)
  with_reducible refine HBk.out.mono ?_
  rintro e w2 ⟨rfl, n, G, hG, hM, hR, hB⟩
  have HB2 := Lib.hid (HB1.out.trans hB)
  have HG := Lib.hid hG
  have HM := Lib.hid hM
  clear hG hM hR hB HBk HFo
  go_wp2_with fail
  with_reducible refine (HKl.out _ _).mono ?_
  rintro e w3 ⟨rfl, rfl⟩
  have hK : KeyZ w1.heap.size n w2.heap.size G (w2.alloc (.cells #[.map (some w1.heap.size)] 43)) := ⟨HM.out.alloc _, Boxed.new _ _ _⟩
  have hB3 : Bel w (w2.alloc (.cells #[.map (some w1.heap.size)] 43)) := HB2.out.alloc _
  have hnd : (G.map (·.1)).Nodup := by
    have h := HM.out.nodup
    rw [List.nodup_iff_pairwise_ne, List.pairwise_map] at h ⊢
    exact h.imp fun hne e => hne (by show rnV _ = rnV _; unfold rnV; rw [e])
  have hGl : G.length ≤ 200000 := Nat.le_trans (keysOf_len HG.out hnd) every_len
  have hGn : G ≠ [] := by
    obtain ⟨x, hx, _⟩ := HG.out.2 (1, 33) (mem_forth.2 ⟨by decide, by decide, mem_row.2 (by omega), by decide⟩)
    exact List.ne_nil_of_mem hx
  have hS := sorted_is (w2.alloc (.cells #[.map (some w1.heap.size)] 43)) enters_keys (keys_seq w1.heap.size n w2.heap.size G) (fun W hb => hK.bel hb)
    (fun pre x h => Nat.le_trans (nodup_sub_len h.2.2.1 h.2.2.2) hGl) (fun tb h => ⟨fun e => hGn (by rw [e] at h; exact (List.nil_perm.1 h)), by rw [h.length_eq]; exact hGl⟩)
  have HS := Lib.hid hS
  have HB3 := Lib.hid hB3
  clear hK hB3 hnd hGl hGn hS HB2 HB1
  go_wp2_with fail
  with_reducible refine HS.out.mono ?_
  rintro e w4 ⟨v, tb, l, rfl, hp, hl, hs, hrow, hb⟩
  have HE := Lib.hid (And.intro (known_list HG.out HM.out hp hl hs) (And.intro (own_base hrow (Below.size HB3.out)) (HB3.out.trans hb)))
  clear hp hl hs hrow hb HS HB3
  go_wp2
  go_ret
  exact ⟨v, l, rfl, HE.out.2.1, HE.out.2.2, HE.out.1.1, HE.out.1.2⟩
theorem known_is (w : World) (hG : Gz w) : Calls Tryz.prog 6 #[] w (KnownPost w) := known_isk w ⟨hG.1, hG.2.2⟩
end Go.Proofs.YtipigfgnpfhdbaaGreatDoor.G
namespace Go.Proofs.YtipigfgnpfhdbaaGreatDoor.F
set_option linter.unusedVariables false

/-- First, last, class of the first, step. -/
abbrev Row := Int × Int × Int × Int
def tab : List Row := [(768, 788, 230, 0), (789, 789, 232, 0), (790, 793, 220, 0), (794, 794, 232, 0), (795, 795, 216, 0), (796, 800, 220, 0), (801, 802, 202, 0), (803, 806, 220, 0), (807, 808, 202, 0), (809, 819, 220, 0), (820, 824, 1, 0), (825, 828, 220, 0), (829, 836, 230, 0), (837, 837, 240, 0), (838, 838, 230, 0), (839, 841, 220, 0), (842, 844, 230, 0), (845, 846, 220, 0), (848, 850, 230, 0), (851, 854, 220, 0), (855, 855, 230, 0), (859, 859, 230, 0), (860, 860, 233, 0), (861, 862, 234, 0), (863, 863, 233, 0), (864, 865, 234, 0), (866, 866, 233, 0), (867, 879, 230, 0), (1456, 1464, 10, 1), (1465, 1466, 19, 0), (1467, 1469, 20, 1), (1471, 1471, 23, 0), (1473, 1474, 24, 1), (1611, 1618, 27, 1), (1619, 1620, 230, 0), (1621, 1622, 220, 0), (1648, 1648, 35, 0), (12441, 12442, 8, 0), (64286, 64286, 26, 0), (65056, 65059, 230, 0)]
def rtab : List Row := [(768, 788, 230, 0), (829, 836, 230, 0), (838, 838, 230, 0), (842, 844, 230, 0), (848, 850, 230, 0), (855, 855, 230, 0), (859, 859, 230, 0), (867, 879, 230, 0), (65056, 65059, 230, 0), (789, 789, 232, 0), (794, 794, 232, 0), (795, 795, 216, 0), (801, 802, 202, 0), (807, 808, 202, 0), (790, 793, 220, 0), (796, 800, 220, 0), (803, 806, 220, 0), (809, 819, 220, 0), (825, 828, 220, 0), (839, 841, 220, 0), (845, 846, 220, 0), (851, 854, 220, 0), (820, 824, 1, 0), (837, 837, 240, 0), (860, 860, 233, 0), (863, 863, 233, 0), (866, 866, 233, 0), (861, 862, 234, 0), (864, 865, 234, 0), (1456, 1464, 10, 1), (1465, 1466, 19, 0), (1467, 1467, 20, 0), (1468, 1468, 21, 0), (1469, 1469, 22, 0), (1471, 1471, 23, 0), (1473, 1473, 24, 0), (1474, 1474, 25, 0), (64286, 64286, 26, 0), (1611, 1618, 27, 1), (1619, 1620, 230, 0), (1621, 1622, 220, 0), (1648, 1648, 35, 0), (12441, 12442, 8, 0)]
def inB (s : Row) (r : Int) : Bool := decide (s.1 ≤ r) && decide (r ≤ s.2.1)
def cval (s : Row) (r : Int) : Int := s.2.2.1 + (r - s.1) * s.2.2.2
def look (t : List Row) (r : Int) : Int := match t.find? (inB · r) with | some s => cval s r | none => 0
def cls (r : Int) : Int := look tab r
/-- The k numbers from a on. -/
def run (a : Int) : Nat → List Int
  | 0 => []
  | k + 1 => a :: run (a + 1) k
def len (s : Row) : Nat := (s.2.1 - s.1 + 1).toNat
def runs : List Row → List Int
  | [] => []
  | s :: t => run s.1 (len s) ++ runs t
def marks : List Int := runs tab

theorem inB_true {s : Row} {r : Int} : inB s r = true ↔ s.1 ≤ r ∧ r ≤ s.2.1 := by simp [inB]
theorem inB_false {s : Row} {r : Int} : inB s r = false ↔ ¬ (s.1 ≤ r ∧ r ≤ s.2.1) := by rw [← inB_true]; simp
theorem mem_run {k : Nat} {a r : Int} : r ∈ run a k ↔ a ≤ r ∧ r < a + k := by
  induction k generalizing a with
  | zero => simp [run]
  | succ k ih => simp only [run, List.mem_cons, ih]; omega
theorem mem_runs {t : List Row} {r : Int} : r ∈ runs t ↔ ∃ s ∈ t, inB s r = true := by
  induction t with
  | nil => simp [runs]
  | cons s t ih =>
    simp only [runs, List.mem_append, ih, mem_run, List.mem_cons, inB_true, len]
    constructor
    · rintro (h | ⟨u, hu, h⟩)
      · exact ⟨s, .inl rfl, by omega⟩
      · exact ⟨u, .inr hu, h⟩
    · rintro ⟨u, rfl | hu, h⟩
      · left; omega
      · exact .inr ⟨u, hu, h⟩

theorem look_none {t : List Row} {r : Int} (h : ∀ s ∈ t, inB s r = false) : look t r = 0 := by
  unfold look
  rw [List.find?_eq_none.2 (fun s hs => by simp [h s hs])]
theorem look_at {t : List Row} {r : Int} {i : Nat} {s : Row} (hi : t[i]? = some s) (hb : ∀ j u, j < i → t[j]? = some u → inB u r = false) (hs : inB s r = true) : look t r = cval s r := by
  have : t.find? (inB · r) = some s := by
    rw [List.find?_eq_some_iff_getElem]
    obtain ⟨hlt, he⟩ := List.getElem?_eq_some_iff.1 hi
    refine ⟨hs, i, hlt, he, fun j hj => ?_⟩
    have := hb j t[j] hj (by simp)
    simp [this]
  unfold look; rw [this]

/-- The two tables tell every mark alike. -/
theorem tabs_alike : (tab ++ rtab).all (fun s => (run s.1 (len s)).all fun r => look tab r == look rtab r) = true := by kernel_rfl
theorem rcls_is (r : Int) : look rtab r = cls r := by
  by_cases h : ∃ s ∈ tab ++ rtab, inB s r = true
  · obtain ⟨s, hs, hr⟩ := h
    have := List.all_eq_true.1 (List.all_eq_true.1 tabs_alike s hs) r (by rw [mem_run]; have := inB_true.1 hr; unfold len; omega)
    exact (eq_of_beq this).symm
  · have h1 : ∀ s ∈ tab ++ rtab, inB s r = false := fun s hs => by
      cases hb : inB s r with
      | false => rfl
      | true => exact absurd ⟨s, hs, hb⟩ h
    rw [look_none fun s hs => h1 s (List.mem_append_right _ hs)]
    exact (look_none fun s hs => h1 s (List.mem_append_left _ hs)).symm

/-- What is laid in the table: rows rise; bounds. -/
theorem tab_bounds : tab.all (fun s => decide (768 ≤ s.1) && decide (s.1 ≤ s.2.1) && decide (s.2.1 ≤ 65059) && decide (1 ≤ s.2.2.1) && decide (s.2.2.1 ≤ 240) && (s.2.2.2 == 0 || s.2.2.2 == 1)) = true := by kernel_rfl
theorem tab_row {i : Nat} {s : Row} (h : tab[i]? = some s) : 768 ≤ s.1 ∧ s.1 ≤ s.2.1 ∧ s.2.1 ≤ 65059 ∧ 1 ≤ s.2.2.1 ∧ s.2.2.1 ≤ 240 ∧ (s.2.2.2 = 0 ∨ s.2.2.2 = 1) := by
  have := List.all_eq_true.1 tab_bounds s (List.mem_of_getElem? h)
  simpa [and_assoc] using this
theorem rtab_bounds : rtab.all (fun s => decide (768 ≤ s.1) && decide (s.1 ≤ s.2.1) && decide (s.2.1 ≤ 65059) && decide (1 ≤ s.2.2.1) && decide (s.2.2.1 ≤ 240) && (s.2.2.2 == 0 || s.2.2.2 == 1)) = true := by kernel_rfl
theorem rtab_row {i : Nat} {s : Row} (h : rtab[i]? = some s) : 768 ≤ s.1 ∧ s.1 ≤ s.2.1 ∧ s.2.1 ≤ 65059 ∧ 1 ≤ s.2.2.1 ∧ s.2.2.1 ≤ 240 ∧ (s.2.2.2 = 0 ∨ s.2.2.2 = 1) := by
  have := List.all_eq_true.1 rtab_bounds s (List.mem_of_getElem? h)
  simpa [and_assoc] using this
theorem tab_len : tab.length = 40 := rfl
theorem rtab_len : rtab.length = 43 := rfl
theorem tab_at {i : Nat} (h : i < 40) : ∃ s, tab[i]? = some s := ⟨tab[i]'(by rw [tab_len]; exact h), by simp⟩
theorem rtab_at {i : Nat} (h : i < 43) : ∃ s, rtab[i]? = some s := ⟨rtab[i]'(by rw [rtab_len]; exact h), by simp⟩

/-- Rows one behind the other. -/
def rising : List Row → Bool
  | [] => true
  | s :: t => t.all (fun u => decide (s.2.1 < u.1)) && rising t
theorem tab_rising : rising tab = true := by kernel_rfl
theorem rising_lt : ∀ (t : List Row), rising t = true → ∀ (i j : Nat) (s u : Row), t[i]? = some s → t[j]? = some u → i < j → s.2.1 < u.1
  | [], _, i, j, s, u, hi, _, _ => by simp at hi
  | x :: t, h, 0, j + 1, s, u, hi, hj, _ => by
    simp only [rising, Bool.and_eq_true, List.all_eq_true] at h
    simp at hi hj
    subst hi
    simpa using h.1 u (List.mem_of_getElem? hj)
  | x :: t, h, i + 1, j + 1, s, u, hi, hj, hij => by
    simp only [rising, Bool.and_eq_true] at h
    exact rising_lt t h.2 i j s u (by simpa using hi) (by simpa using hj) (by omega)
theorem tab_lt {i j : Nat} {s u : Row} (hi : tab[i]? = some s) (hj : tab[j]? = some u) (h : i < j) : s.2.1 < u.1 := rising_lt tab tab_rising i j s u hi hj h

/-- Is it at most this row's last? -/
def upTo (r : Int) (i : Nat) : Bool := match tab[i]? with | some s => decide (r ≤ s.2.1) | none => true
theorem upTo_is {r : Int} {i : Nat} {s : Row} (h : tab[i]? = some s) : upTo r i = decide (r ≤ s.2.1) := by unfold upTo; rw [h]
theorem upTo_mono {r : Int} {a b : Nat} (hab : a ≤ b) (hb : b < 40) (h : upTo r a = true) : upTo r b = true := by
  rcases Nat.lt_or_eq_of_le hab with hlt | rfl
  · obtain ⟨s, hs⟩ := tab_at (i := a) (by omega)
    obtain ⟨u, hu⟩ := tab_at hb
    have h1 := tab_lt hs hu hlt
    have h2 := tab_row hu
    rw [upTo_is hs] at h
    rw [upTo_is hu]
    simp at h ⊢
    omega
  · exact h
/-- What the search by halves finds. -/
theorem cls_past {r : Int} (h : ∀ t, t < 40 → upTo r t = false) : cls r = 0 := by
  refine look_none fun s hs => ?_
  obtain ⟨i, hi⟩ := List.getElem?_of_mem hs
  have := h i (by rw [← tab_len]; exact (List.getElem?_eq_some_iff.1 hi).1)
  rw [upTo_is hi] at this
  rw [inB_false]
  simp at this
  omega
theorem cls_ahead {r : Int} {i : Nat} {s : Row} (hi : tab[i]? = some s) (h : ∀ t, t < i → upTo r t = false) (hlt : r < s.1) : cls r = 0 := by
  refine look_none fun u hu => ?_
  obtain ⟨j, hj⟩ := List.getElem?_of_mem hu
  rw [inB_false]
  rcases Nat.lt_trichotomy j i with hji | rfl | hij
  · have := h j hji
    rw [upTo_is hj] at this
    simp at this
    omega
  · obtain rfl := Option.some.inj (hi.symm.trans hj)
    omega
  · have h1 := tab_lt hi hj hij
    have h2 := tab_row hi
    omega
theorem cls_in {r : Int} {i : Nat} {s : Row} (hi : tab[i]? = some s) (h : ∀ t, t < i → upTo r t = false) (hu : upTo r i = true) (hge : ¬ r < s.1) : cls r = cval s r := by
  refine look_at hi (fun j u hj hju => ?_) ?_
  · have := h j hj
    rw [upTo_is hju] at this
    rw [inB_false]
    simp at this
    omega
  · rw [upTo_is hi] at hu
    rw [inB_true]
    simp at hu
    omega

/-- Marks, and no others, have a class above 0. -/
theorem marks_pos : marks.all (fun r => decide (0 < cls r) && decide (cls r ≤ 240)) = true := by kernel_rfl
theorem mem_marks {r : Int} : r ∈ marks ↔ 0 < cls r := by
  constructor
  · intro h
    have := List.all_eq_true.1 marks_pos r h
    simp at this
    exact this.1
  · intro h
    refine mem_runs.2 (Classical.byContradiction fun hn => ?_)
    have : cls r = 0 := look_none fun s hs => by
      cases hb : inB s r with
      | false => rfl
      | true => exact absurd ⟨s, hs, hb⟩ hn
    omega
theorem cls_range (r : Int) : 0 ≤ cls r ∧ cls r ≤ 240 ∧ (cls r = 0 ∨ 768 ≤ r ∧ r ≤ 65059) := by
  by_cases h : r ∈ marks
  · have := List.all_eq_true.1 marks_pos r h
    simp at this
    obtain ⟨s, hs, hr⟩ := mem_runs.1 h
    obtain ⟨i, hi⟩ := List.getElem?_of_mem hs
    have h1 := tab_row hi
    have h2 := inB_true.1 hr
    omega
  · have h0 : ¬ 0 < cls r := fun hp => h (mem_marks.2 hp)
    have : cls r = 0 := look_none fun s hs => by
      cases hb : inB s r with
      | false => rfl
      | true => exact absurd (mem_runs.2 ⟨s, hs, hb⟩) h
    omega
end Go.Proofs.YtipigfgnpfhdbaaGreatDoor.F
