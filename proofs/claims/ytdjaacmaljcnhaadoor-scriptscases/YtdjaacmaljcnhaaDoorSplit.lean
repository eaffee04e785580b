/- What strings.SplitSeq tells of a text at a separator of one byte: its pieces, in order, until it is told to stop. No condition. -/
import Derived.Test.YtdjaacmaljcnhaaDoorRange
import Derived.Test.YtdjaacmaljcnhaaDoorText
import Derived.Test.YtdjaacmaljcnhaaDoorShelf
namespace Go.Proofs.YtdjaacmaljcnhaaDoor.U
open Go.RowKit Go.Shelf
set_option linter.unusedVariables false
attribute [local go_sem] Oper.semAt_some

theorem cut_str (T : List UInt8) (a b : Nat) : (⟨T.toArray⟩ : ByteArray).extract a b = ⟨((T.take b).drop a).toArray⟩ := by
  rw [ByteArray.extract_mk]
  simp [List.drop_take]
/-- What is left to be told. -/
def leftIn (b : Nat) (w : World) : Nat := match w.cell? ⟨b, 0, none⟩ with
  | some (.string s) => s.size
  | _ => 0
theorem leftIn_is {b : Nat} {w : World} {T : List UInt8} (h : Boxed w b 9 (.string ⟨T.toArray⟩)) : leftIn b w = T.length := by
  unfold leftIn
  rw [h.cell]
  exact size_of T
theorem splB_one {c : UInt8} {T p : List UInt8} (h : splB c T [p] = true) : Lib.indexByte T c = -1 ∧ T = p := by
  simpa [splB] using h
theorem splB_more {c : UInt8} {T p q : List UInt8} {r : List (List UInt8)} (h : splB c T (p :: q :: r) = true) : Lib.indexByte T c = (p.length : Int) ∧ T.take p.length = p ∧ splB c (T.drop (p.length + 1)) (q :: r) = true := by
  simpa [splB, Bool.and_eq_true, and_assoc] using h
theorem index_lt {c : UInt8} : ∀ {T : List UInt8} {n : Nat}, Lib.indexByte T c = (n : Int) → n < T.length
  | [], n, h => by simp [Lib.indexByte] at h
  | b :: l, n, h => by
    unfold Lib.indexByte at h
    split at h
    · simp; omega
    · split at h
      · omega
      · cases n with
        | zero => have := Lib.indexByte_ge l c; rename_i h1; simp at h1; omega
        | succ m =>
          have := index_lt (c := c) (T := l) (n := m) (by omega)
          simp; omega

def SplRel (c : UInt8) (ps : List (List UInt8)) (b : Nat) (J : List (List UInt8) → World → Prop) (wr : World) : Prop :=
  ∃ pre rest T, ps = pre ++ rest ∧ splB c T rest = true ∧ Boxed wr b 9 (.string ⟨T.toArray⟩) ∧ Boxed wr (b + 1) 9 (.string ⟨#[c]⟩) ∧ Boxed wr (b + 2) 3 (.int .i64 0) ∧ J pre wr ∧ T.length < 4000

set_option maxRecDepth 100000 in
set_option maxHeartbeats 2000000 in
theorem split_in (c : UInt8) (S : List UInt8) (ps : List (List UInt8)) (hs : splB c S ps = true) (hsz : S.length < 4000) (b : Nat) (Wz : World) (Z : World → Prop) (hb : b + 3 ≤ Wz.heap.size)
    (b0 : Boxed Wz b 9 (.string ⟨S.toArray⟩)) (b1 : Boxed Wz (b + 1) 9 (.string ⟨#[c]⟩)) (b2 : Boxed Wz (b + 2) 3 (.int .i64 0)) :
    Seq Tryd.prog (fun x : List UInt8 => #[.string ⟨x.toArray⟩]) ps b (b + 3) 33 #[] #[.pointer (some ⟨b + 1, 0, none⟩), .pointer (some ⟨b, 0, none⟩), .pointer (some ⟨b + 2, 0, none⟩)] Z Wz := by
  intro l E J Jx hZ hJ hJx hY W hl hlE hE hW h0
  have hsame : ∀ j, b ≤ j → j < b + 3 → W.heap[j]? = Wz.heap[j]? := hW
  have B0 : Boxed W b 9 (.string ⟨S.toArray⟩) := (hsame b (by omega) (by omega)).trans b0
  have B1 : Boxed W (b + 1) 9 (.string ⟨#[c]⟩) := (hsame (b + 1) (by omega) (by omega)).trans b1
  have B2 : Boxed W (b + 2) 3 (.int .i64 0) := (hsame (b + 2) (by omega) (by omega)).trans b2
  have HS := Lib.hid hs
  have H0 := Lib.hid h0
  have HJ := Lib.hid hJ
  have HY := Lib.hid hY
  have HE := Lib.hid (show b + 3 ≤ E by omega)
  have k1 := B1.cell
  have hq : ((⟨#[c]⟩ : ByteArray).size : Int) = 1 := rfl
  have R0 := Lib.hid (⟨[], ps, S, rfl, hs, B0, B1, B2, h0, hsz⟩ : SplRel c ps b J W)
  clear b0 b1 b2 hsame hW hs h0 hJ hJx hY hZ B0 B1 B2 hb hl hlE hE
  refine (callsIn_wide (n := 4)).1 ?_
  refine callsIn_of_wp Tryd.func33 rfl trivial ?_ rfl
  simp only [Tryd.ntmps33, List.size_toArray, List.length_cons, List.length_nil, Nat.reduceAdd, Nat.reduceSub, Array.replicate_succ, Array.replicate_zero, List.push_toArray, List.append_toArray, List.nil_append, List.cons_append]
  gi_wp2_with fail
  gi_loopw [7] (fun _ wr => SplRel c ps b J wr) (fun _ wr => leftIn b wr)
  case atStart => exact R0.out
  case round =>
    obtain ⟨pre, rest, T, hp, hsp, B0, B1, B2, hJp, hTl⟩ := hrel
    have HTl := Lib.hid hTl
    clear hTl
    rcases rest with _ | ⟨p, rest⟩
    · simp [splB] at hsp
    have k0 := B0.cell
    have k1 := B1.cell
    have k2 := B2.cell
    have f0 := B0.frozen
    have HB := Lib.hid (And.intro B0 (And.intro B1 B2))
    have HP := Lib.hid hp
    have HJp := Lib.hid hJp
    clear B0 B1 B2 hp hJp
    rcases rest with _ | ⟨q, r⟩
    · obtain ⟨hi, rfl⟩ := splB_one hsp
      clear hsp
      obtain ⟨fn, tmps, assign, body, hy, hR⟩ := HY.out pre T wr HJp.out ⟨[], HP.out⟩
      have HRo := Lib.hid hR
      clear hR
      gi_wp2_with fail
      refine ⟨trivial, ?_⟩
      gi_at_call 29
      refine (callsIn_wide.2 (strings_Index_one ⟨T.toArray⟩ c wr)).mono ?_
      rintro e w1 ⟨rfl, rfl⟩
      rw [show Lib.indexByte (⟨T.toArray⟩ : ByteArray).data.toList c = -1 from hi]
      gi_wp2_with fail
      refine (roundIn_any HRo.out).mono ?_
      rintro e w2 ⟨(⟨rfl, hj2⟩ | ⟨rfl, hj2⟩), hk2⟩
      · have HJ2 := Lib.hid (show J ps w2 by rw [HP.out]; exact hj2)
        clear hj2 hk2 hy
        gi_wp2_with fail
        go_end0
        exact ⟨⟨_, rfl⟩, .inl HJ2.out⟩
      · have HJ2 := Lib.hid hj2
        clear hj2 hk2 hy
        gi_wp2_with fail
        go_end0
        exact ⟨⟨_, rfl⟩, .inr ⟨_, HJ2.out⟩⟩
    · obtain ⟨hi, ht, hs2⟩ := splB_more hsp
      have hlt := index_lt hi
      clear hsp
      obtain ⟨fn, tmps, assign, body, hy, hR⟩ := HY.out pre p wr HJp.out ⟨q :: r, HP.out⟩
      have HRo := Lib.hid hR
      have HT := Lib.hid ht
      have HS2 := Lib.hid hs2
      clear hR ht hs2
      generalize hn : p.length = n at hi hlt HT HS2
      have HN := Lib.hid hn
      clear hn
      have q0 : decide ((n : Int) < 0) = false := by simp
      have hTl : T.length < 4000 := HTl.out
      have q1 : wrap64 (n : Int) = (n : Int) := by unfold wrap64; omega
      have q2 : wrap64 ((n : Int) + 1) = (n : Int) + 1 := by unfold wrap64; omega
      have q3 : (0 : Int) ≤ (n : Int) := by omega
      have q4 : (n : Int) ≤ (T.length : Int) := by omega
      have q5 : (0 : Int) ≤ (n : Int) + 1 := by omega
      have q6 : (n : Int) + 1 ≤ (T.length : Int) := by omega
      have q7 : (⟨T.toArray⟩ : ByteArray).extract 0 n = ⟨p.toArray⟩ := by rw [cut_str, ← HT.out]; simp
      gi_wp2_with fail
      refine ⟨trivial, ?_⟩
      gi_at_call 29
      refine (callsIn_wide.2 (strings_Index_one ⟨T.toArray⟩ c wr)).mono ?_
      rintro e w1 ⟨rfl, rfl⟩
      rw [show Lib.indexByte (⟨T.toArray⟩ : ByteArray).data.toList c = (n : Int) from hi]
      gi_wp2_with fail
      refine (roundIn_any HRo.out).mono ?_
      rintro e w2 ⟨(⟨rfl, hj2⟩ | ⟨rfl, hj2⟩), hk2⟩
      · have C0 := hk2.boxed HB.out.1 (.inl (by omega))
        have C1 := hk2.boxed HB.out.2.1 (.inl (by omega))
        have C2 := hk2.boxed HB.out.2.2 (.inl (by omega))
        have k3 := C0.cell
        have k4 := C1.cell
        have f3 := C0.frozen
        have HC := Lib.hid (And.intro C0 (And.intro C1 C2))
        have HJ2 := Lib.hid hj2
        clear hj2 hk2 hy C0 C1 C2 k0 k1 k2 f0
        gi_wp2_with fail
        rw [show (⟨T.toArray⟩ : ByteArray).extract (n + 1) T.length = ⟨(T.drop (n + 1)).toArray⟩ by rw [cut_str]; simp]
        have D0 := HC.out.1.set (.string ⟨(T.drop (n + 1)).toArray⟩)
        refine ⟨⟨pre ++ [p], q :: r, T.drop (n + 1), by rw [HP.out]; simp, HS2.out, D0, HC.out.2.1.other (by omega) _, HC.out.2.2.other (by omega) _, HJ.out _ _ _ HJ2.out (Tch.cell _ _ _ (.inr ⟨Nat.le_refl _, ?_⟩)), by simp; omega⟩, ?_⟩
        · show b < b + 3
          omega
        · rw [leftIn_is D0, leftIn_is HB.out.1]
          simp
          omega
      · have HJ2 := Lib.hid hj2
        clear hj2 hk2 hy
        gi_wp2_with fail
        refine bodyPost_ret (results_none rfl _ _ _) rfl ?_
        exact ⟨⟨_, rfl⟩, .inr ⟨_, HJ2.out⟩⟩
end Go.Proofs.YtdjaacmaljcnhaaDoor.U
