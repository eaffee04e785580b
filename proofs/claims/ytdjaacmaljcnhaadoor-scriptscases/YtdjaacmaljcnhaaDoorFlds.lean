/- What strings.FieldsSeq tells of a text: its words, in order, until it is told to stop. Tables as they are laid. -/
import Derived.Test.YtdjaacmaljcnhaaDoorRange
import Derived.Test.YtdjaacmaljcnhaaDoorText
import Derived.Test.YtdjaacmaljcnhaaDoorShelf
import Derived.Test.YtdjaacmaljcnhaaDoorSplit
namespace Go.Proofs.YtdjaacmaljcnhaaDoor.U
open Go.RowKit Go.Shelf
set_option linter.unusedVariables false
attribute [local go_sem] Oper.semAt_some

theorem fsr_step {s : List UInt8} {k : Nat} {st : Int} {i : Nat} {rest : List (List UInt8)} (h : fsr s k st i = some rest) (hi : i < s.length) :
    ∃ k', k = k' + 1 ∧ (1 ≤ (stp s i).2.1 ∧ i + (stp s i).2.1 ≤ s.length) ∧ st ≤ i ∧ (stp s i).1 ≤ 1114111 ∧
      (((stp s i).2.2 = true ∧ 0 ≤ st ∧ ∃ r, rest = ((s.take i).drop st.toNat) :: r ∧ fsr s k' (-1) (i + (stp s i).2.1) = some r) ∨
       ((stp s i).2.2 = true ∧ st < 0 ∧ fsr s k' (-1) (i + (stp s i).2.1) = some rest) ∨
       ((stp s i).2.2 = false ∧ st < 0 ∧ fsr s k' i (i + (stp s i).2.1) = some rest) ∨
       ((stp s i).2.2 = false ∧ 0 ≤ st ∧ fsr s k' st (i + (stp s i).2.1) = some rest)) := by
  cases k with
  | zero => simp [fsr] at h
  | succ k' =>
    unfold fsr at h
    rw [if_pos hi] at h
    split at h
    · rename_i hc
      refine ⟨k', rfl, hc.1, hc.2.1, hc.2.2, ?_⟩
      split at h
      · rename_i hs
        split at h
        · rename_i h0
          rw [Option.map_eq_some_iff] at h
          obtain ⟨r, h1, h2⟩ := h
          exact .inl ⟨hs, h0, r, h2.symm, h1⟩
        · rename_i h0
          exact .inr (.inl ⟨hs, by omega, h⟩)
      · rename_i hs
        have hs' : (stp s i).2.2 = false := by simpa using hs
        split at h
        · rename_i h0
          exact .inr (.inr (.inl ⟨hs', h0, h⟩))
        · rename_i h0
          exact .inr (.inr (.inr ⟨hs', by omega, h⟩))
    · cases h
theorem fsr_end {s : List UInt8} {k : Nat} {st : Int} {rest : List (List UInt8)} (h : fsr s k st s.length = some rest) : st ≤ s.length ∧ ((0 ≤ st ∧ rest = [s.drop st.toNat]) ∨ (st < 0 ∧ rest = [])) := by
  cases k with
  | zero => simp [fsr] at h
  | succ k' =>
    unfold fsr at h
    rw [if_neg (by omega)] at h
    split at h
    · rename_i hc
      refine ⟨hc.2, ?_⟩
      split at h
      · rename_i h0
        cases h
        exact .inl ⟨h0, rfl⟩
      · rename_i h0
        cases h
        exact .inr ⟨by omega, rfl⟩
    · cases h
theorem byte_at (S : List UInt8) (i : Nat) (h : i < (⟨S.toArray⟩ : ByteArray).size) : ((⟨S.toArray⟩ : ByteArray)[i]'h).toNat = (S.getD i 0).toNat := by
  have h' : i < S.length := by rw [size_of] at h; exact h
  simp [ByteArray.getElem_eq_getElem_data, List.getD, h']

def FldRel (S : List UInt8) (fs : List (List UInt8)) (b E : Nat) (J : List (List UInt8) → World → Prop) (u v : Value) (wr : World) : Prop :=
  ∃ (k : Nat) (pre rest : List (List UInt8)) (st : Int) (i : Nat), u = .int .i64 st ∧ v = .int .i64 i ∧ fs = pre ++ rest ∧ fsr S k st i = some rest ∧ (-1 ≤ st ∧ i ≤ S.length ∧ E ≤ wr.heap.size) ∧ Boxed wr b 9 (.string ⟨S.toArray⟩) ∧ J pre wr

set_option maxRecDepth 100000 in
set_option maxHeartbeats 8000000 in
theorem fields_in (S : List UInt8) (fs : List (List UInt8)) (hs : fsr S (S.length + 1) (-1) 0 = some fs) (hsz : S.length < 4000) (b : Nat) (Wz : World) (hb : b + 1 ≤ Wz.heap.size)
    (b0 : Boxed Wz b 9 (.string ⟨S.toArray⟩)) :
    Seq Tryd.prog (fun x : List UInt8 => #[.string ⟨x.toArray⟩]) fs b (b + 1) 30 #[] #[.pointer (some ⟨b, 0, none⟩)] Tz Wz := by
  intro l E J Jx hZ hJ hJx hY W hl hlE hE hW h0
  have B0 : Boxed W b 9 (.string ⟨S.toArray⟩) := (hW b (Nat.le_refl _) (by omega)).trans b0
  have HJ := Lib.hid hJ
  have HY := Lib.hid hY
  have HZ := Lib.hid hZ
  have HE := Lib.hid (show b + 1 ≤ E by omega)
  have R0 := Lib.hid (⟨S.length + 1, [], fs, -1, 0, rfl, rfl, rfl, hs, ⟨by omega, by omega, hE⟩, B0, h0⟩ : FldRel S fs b E J (.int .i64 (-1)) (.int .i64 0) W)
  clear b0 hW hs h0 hJ hJx hY hZ B0 hb hl hlE hE
  refine (callsIn_wide (n := 4)).1 ?_
  refine callsIn_of_wp Tryd.func30 rfl trivial ?_ rfl
  simp only [Tryd.ntmps30, List.size_toArray, List.length_cons, List.length_nil, Nat.reduceAdd, Nat.reduceSub, Array.replicate_succ, Array.replicate_zero, List.push_toArray, List.append_toArray, List.nil_append, List.cons_append]
  gi_wp2_with fail
  gi_loopw [3, 4] (fun u v wr => FldRel S fs b E J u v wr) (fun _ v _ => S.length - (intOf v).toNat)
  case atStart => exact R0.out
  case round =>
    obtain ⟨k, pre, rest, st, i, rfl, rfl, hp, hf, ⟨hst, hi, hE⟩, B0, hJp⟩ := hrel
    have k0 := B0.cell
    have hsize : ((⟨S.toArray⟩ : ByteArray).size : Int) = (S.length : Int) := by rw [size_of]
    have HB := Lib.hid B0
    have HP := Lib.hid hp
    have HJp := Lib.hid hJp
    have HWE := Lib.hid hE
    clear B0 hp hJp hE
    by_cases hlt : i < S.length
    · obtain ⟨k', rfl, ⟨z1, z2⟩, hsi, hr, hcase⟩ := fsr_step hf hlt
      clear hf
      have q0 : decide ((i : Int) < (S.length : Int)) = true := by simpa using hlt
      have qi0 : (0 : Int) ≤ (i : Int) := by omega
      have qi1 : (i : Int) < (S.length : Int) := by omega
      have qi2 : (i : Int) ≤ (S.length : Int) := by omega
      have hat := byte_at S i
      have hv : (S.getD i 0).toNat < 256 := UInt8.toNat_lt _
      have HS := Lib.hid hcase
      clear hcase
      have HT := Lib.hid (HZ.out _ _ HJp.out)
      have hc := HT.out.1.cell gSp_is (S.getD i 0).toNat (by rw [Lib.asciiSpaceTab_length]; exact hv)
      rw [Lib.asciiSpaceTab_at _ hv, show UInt8.ofNat (S.getD i 0).toNat = S.getD i 0 by simp] at hc
      by_cases hasc : (S.getD i 0).toNat < 128
      · have e1 : stp S i = (((S.getD i 0).toNat : Int), 1, Lib.isSp (S.getD i 0)) := if_pos hasc
        rw [e1] at z1 z2 hr HS
        dsimp only at z1 z2 hr
        rcases HS.out with hcs | hcs | hcs | hcs
        all_goals clear HS
        all_goals dsimp only at hcs
        · obtain ⟨hsp, hs0, r, rfl, hf2⟩ := hcs
          rw [hsp] at hc
          simp only [if_true] at hc
          have q1 : wrap64 ((i : Int) + 1) = (i : Int) + 1 := by unfold wrap64; omega
          have hlen : S.length < 4000 := hsz
          generalize hvv : (S.getD i 0).toNat = v at hat hv hc hasc
          have qa : decide ((128 : Int) ≤ (v : Int)) = false := by simp; omega
          have qv : (v : Int) < 256 := by omega
          clear hvv e1 hsp
          have hst2 : ((st.toNat : Nat) : Int) = st := by omega
          obtain ⟨s, hs⟩ : ∃ s : Nat, s = st.toNat := ⟨_, rfl⟩
          rw [← hs] at hst2
          subst hst2
          clear hs
          have qs : decide ((s : Int) < 0) = false := by simp
          have qs0 : (0 : Int) ≤ (s : Int) := by omega
          have qs1 : (s : Int) ≤ (i : Int) := by omega
          obtain ⟨fn, tmps, assign, body, hy, hR⟩ := HY.out pre ((S.take i).drop (s : Int).toNat) wr HJp.out ⟨r, HP.out⟩
          have HRo := Lib.hid hR
          have hx : (⟨S.toArray⟩ : ByteArray).extract s i = ⟨((S.take i).drop (s : Int).toNat).toArray⟩ := by rw [cut_str]; simp
          generalize ((S.take i).drop (s : Int).toNat) = pc at hx hy HRo HP
          clear hR
          have HF := Lib.hid hf2
          clear hf2
          gi_wp2_with fail
          refine (roundIn_any HRo.out).mono ?_
          rintro e w9 ⟨(⟨rfl, hj2⟩ | ⟨rfl, hj2⟩), hk2⟩
          · have C0 := hk2.boxed HB.out (.inl (by omega))
            have HJ2 := Lib.hid hj2
            have HS2 := Lib.hid hk2.size
            have HC := Lib.hid C0
            clear hj2 hk2 hy C0 k0
            gi_wp2_with fail
            exact ⟨⟨k', pre ++ [pc], r, -1, i + 1, rfl, (by first | rfl | (congr 1; omega)), by rw [HP.out]; simp, HF.out, ⟨by omega, by omega, Nat.le_trans HWE.out HS2.out⟩, HC.out, HJ2.out⟩, by simp [intOf]; omega⟩
          · have HJ2 := Lib.hid hj2
            clear hj2 hk2 hy
            gi_wp2_with fail
            refine bodyPost_ret (results_none rfl _ _ _) rfl ?_
            exact ⟨⟨_, rfl⟩, .inr ⟨_, HJ2.out⟩⟩
        · obtain ⟨hsp, hs0, hf2⟩ := hcs
          rw [hsp] at hc
          simp only [if_true] at hc
          have q1 : wrap64 ((i : Int) + 1) = (i : Int) + 1 := by unfold wrap64; omega
          have hlen : S.length < 4000 := hsz
          generalize hvv : (S.getD i 0).toNat = v at hat hv hc hasc
          have qa : decide ((128 : Int) ≤ (v : Int)) = false := by simp; omega
          have qv : (v : Int) < 256 := by omega
          clear hvv e1 hsp
          have qs : decide ((0 : Int) ≤ st) = false := by simpa using hs0
          have HF := Lib.hid hf2
          clear hf2
          gi_wp2_with fail
          exact ⟨⟨k', pre, rest, -1, i + 1, (by congr 1; omega), (by first | rfl | (congr 1; omega)), HP.out, HF.out, ⟨by omega, by omega, HWE.out⟩, HB.out, HJp.out⟩, by simp [intOf]; omega⟩
        · obtain ⟨hsp, hs0, hf2⟩ := hcs
          rw [hsp] at hc
          simp only [Bool.false_eq_true, if_false] at hc
          have q1 : wrap64 ((i : Int) + 1) = (i : Int) + 1 := by unfold wrap64; omega
          have hlen : S.length < 4000 := hsz
          generalize hvv : (S.getD i 0).toNat = v at hat hv hc hasc
          have qa : decide ((128 : Int) ≤ (v : Int)) = false := by simp; omega
          have qv : (v : Int) < 256 := by omega
          clear hvv e1 hsp
          have qs : decide (st < 0) = true := by simpa using hs0
          have HF := Lib.hid hf2
          clear hf2
          gi_wp2_with fail
          exact ⟨⟨k', pre, rest, i, i + 1, rfl, (by first | rfl | (congr 1; omega)), HP.out, HF.out, ⟨by omega, by omega, HWE.out⟩, HB.out, HJp.out⟩, by simp [intOf]; omega⟩
        · obtain ⟨hsp, hs0, hf2⟩ := hcs
          rw [hsp] at hc
          simp only [Bool.false_eq_true, if_false] at hc
          have q1 : wrap64 ((i : Int) + 1) = (i : Int) + 1 := by unfold wrap64; omega
          have hlen : S.length < 4000 := hsz
          generalize hvv : (S.getD i 0).toNat = v at hat hv hc hasc
          have qa : decide ((128 : Int) ≤ (v : Int)) = false := by simp; omega
          have qv : (v : Int) < 256 := by omega
          clear hvv e1 hsp
          have qs : decide (st < 0) = false := by simpa using hs0
          have HF := Lib.hid hf2
          clear hf2
          gi_wp2_with fail
          exact ⟨⟨k', pre, rest, st, i + 1, rfl, (by first | rfl | (congr 1; omega)), HP.out, HF.out, ⟨by omega, by omega, HWE.out⟩, HB.out, HJp.out⟩, by simp [intOf]; omega⟩
      · have e1 : stp S i = (((Lib.decodeGo ⟨(S.drop i).toArray⟩).1 : Int), (Lib.decodeGo ⟨(S.drop i).toArray⟩).2, Lib.isSpaceZ ((Lib.decodeGo ⟨(S.drop i).toArray⟩).1 : Int)) := if_neg hasc
        rw [e1] at z1 z2 hr HS
        dsimp only at z1 z2 hr
        rcases HS.out with hcs | hcs | hcs | hcs
        all_goals clear HS
        all_goals dsimp only at hcs
        · obtain ⟨hsp, hs0, r, rfl, hf2⟩ := hcs
          have hlen : S.length < 4000 := hsz
          have hdrop : (⟨S.toArray⟩ : ByteArray).extract i S.length = ⟨(S.drop i).toArray⟩ := by rw [cut_str]; simp
          have HD := Lib.hid (fun w h => utf8_DecodeRuneInString ⟨(S.drop i).toArray⟩ w h)
          have HI := Lib.hid (fun w h => unicode_IsSpace_any ((Lib.decodeGo ⟨(S.drop i).toArray⟩).1 : Int) w (by omega) (by omega) h)
          rw [hsp] at HI
          generalize hvv : (S.getD i 0).toNat = v at hat hv hc hasc
          have qa : decide ((128 : Int) ≤ (v : Int)) = true := by simp; omega
          have qv : (v : Int) < 256 := by omega
          generalize (Lib.decodeGo ⟨(S.drop i).toArray⟩).1 = d at HD HI hr
          generalize (Lib.decodeGo ⟨(S.drop i).toArray⟩).2 = z at HD z1 z2 hf2
          have q1 : wrap64 ((i : Int) + (z : Int)) = (i : Int) + (z : Int) := by unfold wrap64; omega
          generalize (if Lib.isSp (S.getD i 0) = true then (1 : Int) else 0) = cz at hc
          clear hvv e1 hsp
          have hst2 : ((st.toNat : Nat) : Int) = st := by omega
          obtain ⟨s, hs⟩ : ∃ s : Nat, s = st.toNat := ⟨_, rfl⟩
          rw [← hs] at hst2
          subst hst2
          clear hs
          have qs : decide ((s : Int) < 0) = false := by simp
          have qs0 : (0 : Int) ≤ (s : Int) := by omega
          have qs1 : (s : Int) ≤ (i : Int) := by omega
          gi_wp2_with fail
          refine ⟨trivial, ?_⟩
          gi_at_call 31
          refine (callsIn_wide.2 (HD.out _ HT.out.2.1)).mono ?_
          rintro e w1 ⟨rfl, hb1⟩
          have HT1 := Lib.hid (HT.out.bel hb1)
          have HJ1 := Lib.hid (HJ.out _ _ _ HJp.out (Tch.of_bel hb1 HWE.out))
          have HB1 := Lib.hid (boxed_bel HB.out hb1)
          have HW1 := Lib.hid (Nat.le_trans HWE.out (Below.size hb1))
          clear hb1 k0 hc
          gi_wp2_with fail
          refine ⟨trivial, ?_⟩
          gi_at_call 32
          refine (callsIn_wide.2 (HI.out _ HT1.out.2.2.1)).mono ?_
          rintro e w2 ⟨rfl, hb2⟩
          have HJ2' := Lib.hid (HJ.out _ _ _ HJ1.out (Tch.of_bel hb2 HW1.out))
          have HB2 := Lib.hid (boxed_bel HB1.out hb2)
          have HW2 := Lib.hid (Nat.le_trans HW1.out (Below.size hb2))
          have k0 := HB2.out.cell
          clear hb2
          obtain ⟨fn, tmps, assign, body, hy, hR⟩ := HY.out pre ((S.take i).drop (s : Int).toNat) w2 HJ2'.out ⟨r, HP.out⟩
          have HRo := Lib.hid hR
          have hx : (⟨S.toArray⟩ : ByteArray).extract s i = ⟨((S.take i).drop (s : Int).toNat).toArray⟩ := by rw [cut_str]; simp
          generalize ((S.take i).drop (s : Int).toNat) = pc at hx hy HRo HP
          clear hR
          have HF := Lib.hid hf2
          clear hf2
          gi_wp2_with fail
          refine (roundIn_any HRo.out).mono ?_
          rintro e w9 ⟨(⟨rfl, hj2⟩ | ⟨rfl, hj2⟩), hk2⟩
          · have C0 := hk2.boxed HB2.out (.inl (by omega))
            have HJ2 := Lib.hid hj2
            have HS2 := Lib.hid hk2.size
            have HC := Lib.hid C0
            clear hj2 hk2 hy C0 k0
            gi_wp2_with fail
            exact ⟨⟨k', pre ++ [pc], r, -1, i + z, rfl, (by first | rfl | (congr 1; omega)), by rw [HP.out]; simp, HF.out, ⟨by omega, by omega, Nat.le_trans HW2.out HS2.out⟩, HC.out, HJ2.out⟩, by simp [intOf]; omega⟩
          · have HJ2 := Lib.hid hj2
            clear hj2 hk2 hy
            gi_wp2_with fail
            refine bodyPost_ret (results_none rfl _ _ _) rfl ?_
            exact ⟨⟨_, rfl⟩, .inr ⟨_, HJ2.out⟩⟩
        · obtain ⟨hsp, hs0, hf2⟩ := hcs
          have hlen : S.length < 4000 := hsz
          have hdrop : (⟨S.toArray⟩ : ByteArray).extract i S.length = ⟨(S.drop i).toArray⟩ := by rw [cut_str]; simp
          have HD := Lib.hid (fun w h => utf8_DecodeRuneInString ⟨(S.drop i).toArray⟩ w h)
          have HI := Lib.hid (fun w h => unicode_IsSpace_any ((Lib.decodeGo ⟨(S.drop i).toArray⟩).1 : Int) w (by omega) (by omega) h)
          rw [hsp] at HI
          generalize hvv : (S.getD i 0).toNat = v at hat hv hc hasc
          have qa : decide ((128 : Int) ≤ (v : Int)) = true := by simp; omega
          have qv : (v : Int) < 256 := by omega
          generalize (Lib.decodeGo ⟨(S.drop i).toArray⟩).1 = d at HD HI hr
          generalize (Lib.decodeGo ⟨(S.drop i).toArray⟩).2 = z at HD z1 z2 hf2
          have q1 : wrap64 ((i : Int) + (z : Int)) = (i : Int) + (z : Int) := by unfold wrap64; omega
          generalize (if Lib.isSp (S.getD i 0) = true then (1 : Int) else 0) = cz at hc
          clear hvv e1 hsp
          have qs : decide ((0 : Int) ≤ st) = false := by simpa using hs0
          have HF := Lib.hid hf2
          clear hf2
          gi_wp2_with fail
          refine ⟨trivial, ?_⟩
          gi_at_call 31
          refine (callsIn_wide.2 (HD.out _ HT.out.2.1)).mono ?_
          rintro e w1 ⟨rfl, hb1⟩
          have HT1 := Lib.hid (HT.out.bel hb1)
          have HJ1 := Lib.hid (HJ.out _ _ _ HJp.out (Tch.of_bel hb1 HWE.out))
          have HB1 := Lib.hid (boxed_bel HB.out hb1)
          have HW1 := Lib.hid (Nat.le_trans HWE.out (Below.size hb1))
          clear hb1 k0 hc
          gi_wp2_with fail
          refine ⟨trivial, ?_⟩
          gi_at_call 32
          refine (callsIn_wide.2 (HI.out _ HT1.out.2.2.1)).mono ?_
          rintro e w2 ⟨rfl, hb2⟩
          have HJ2' := Lib.hid (HJ.out _ _ _ HJ1.out (Tch.of_bel hb2 HW1.out))
          have HB2 := Lib.hid (boxed_bel HB1.out hb2)
          have HW2 := Lib.hid (Nat.le_trans HW1.out (Below.size hb2))
          have k0 := HB2.out.cell
          clear hb2
          gi_wp2_with fail
          exact ⟨⟨k', pre, rest, -1, i + z, (by congr 1; omega), (by first | rfl | (congr 1; omega)), HP.out, HF.out, ⟨by omega, by omega, HW2.out⟩, HB2.out, HJ2'.out⟩, by simp [intOf]; omega⟩
        · obtain ⟨hsp, hs0, hf2⟩ := hcs
          have hlen : S.length < 4000 := hsz
          have hdrop : (⟨S.toArray⟩ : ByteArray).extract i S.length = ⟨(S.drop i).toArray⟩ := by rw [cut_str]; simp
          have HD := Lib.hid (fun w h => utf8_DecodeRuneInString ⟨(S.drop i).toArray⟩ w h)
          have HI := Lib.hid (fun w h => unicode_IsSpace_any ((Lib.decodeGo ⟨(S.drop i).toArray⟩).1 : Int) w (by omega) (by omega) h)
          rw [hsp] at HI
          generalize hvv : (S.getD i 0).toNat = v at hat hv hc hasc
          have qa : decide ((128 : Int) ≤ (v : Int)) = true := by simp; omega
          have qv : (v : Int) < 256 := by omega
          generalize (Lib.decodeGo ⟨(S.drop i).toArray⟩).1 = d at HD HI hr
          generalize (Lib.decodeGo ⟨(S.drop i).toArray⟩).2 = z at HD z1 z2 hf2
          have q1 : wrap64 ((i : Int) + (z : Int)) = (i : Int) + (z : Int) := by unfold wrap64; omega
          generalize (if Lib.isSp (S.getD i 0) = true then (1 : Int) else 0) = cz at hc
          clear hvv e1 hsp
          have qs : decide (st < 0) = true := by simpa using hs0
          have HF := Lib.hid hf2
          clear hf2
          gi_wp2_with fail
          refine ⟨trivial, ?_⟩
          gi_at_call 31
          refine (callsIn_wide.2 (HD.out _ HT.out.2.1)).mono ?_
          rintro e w1 ⟨rfl, hb1⟩
          have HT1 := Lib.hid (HT.out.bel hb1)
          have HJ1 := Lib.hid (HJ.out _ _ _ HJp.out (Tch.of_bel hb1 HWE.out))
          have HB1 := Lib.hid (boxed_bel HB.out hb1)
          have HW1 := Lib.hid (Nat.le_trans HWE.out (Below.size hb1))
          clear hb1 k0 hc
          gi_wp2_with fail
          refine ⟨trivial, ?_⟩
          gi_at_call 32
          refine (callsIn_wide.2 (HI.out _ HT1.out.2.2.1)).mono ?_
          rintro e w2 ⟨rfl, hb2⟩
          have HJ2' := Lib.hid (HJ.out _ _ _ HJ1.out (Tch.of_bel hb2 HW1.out))
          have HB2 := Lib.hid (boxed_bel HB1.out hb2)
          have HW2 := Lib.hid (Nat.le_trans HW1.out (Below.size hb2))
          have k0 := HB2.out.cell
          clear hb2
          gi_wp2_with fail
          exact ⟨⟨k', pre, rest, i, i + z, rfl, (by first | rfl | (congr 1; omega)), HP.out, HF.out, ⟨by omega, by omega, HW2.out⟩, HB2.out, HJ2'.out⟩, by simp [intOf]; omega⟩
        · obtain ⟨hsp, hs0, hf2⟩ := hcs
          have hlen : S.length < 4000 := hsz
          have hdrop : (⟨S.toArray⟩ : ByteArray).extract i S.length = ⟨(S.drop i).toArray⟩ := by rw [cut_str]; simp
          have HD := Lib.hid (fun w h => utf8_DecodeRuneInString ⟨(S.drop i).toArray⟩ w h)
          have HI := Lib.hid (fun w h => unicode_IsSpace_any ((Lib.decodeGo ⟨(S.drop i).toArray⟩).1 : Int) w (by omega) (by omega) h)
          rw [hsp] at HI
          generalize hvv : (S.getD i 0).toNat = v at hat hv hc hasc
          have qa : decide ((128 : Int) ≤ (v : Int)) = true := by simp; omega
          have qv : (v : Int) < 256 := by omega
          generalize (Lib.decodeGo ⟨(S.drop i).toArray⟩).1 = d at HD HI hr
          generalize (Lib.decodeGo ⟨(S.drop i).toArray⟩).2 = z at HD z1 z2 hf2
          have q1 : wrap64 ((i : Int) + (z : Int)) = (i : Int) + (z : Int) := by unfold wrap64; omega
          generalize (if Lib.isSp (S.getD i 0) = true then (1 : Int) else 0) = cz at hc
          clear hvv e1 hsp
          have qs : decide (st < 0) = false := by simpa using hs0
          have HF := Lib.hid hf2
          clear hf2
          gi_wp2_with fail
          refine ⟨trivial, ?_⟩
          gi_at_call 31
          refine (callsIn_wide.2 (HD.out _ HT.out.2.1)).mono ?_
          rintro e w1 ⟨rfl, hb1⟩
          have HT1 := Lib.hid (HT.out.bel hb1)
          have HJ1 := Lib.hid (HJ.out _ _ _ HJp.out (Tch.of_bel hb1 HWE.out))
          have HB1 := Lib.hid (boxed_bel HB.out hb1)
          have HW1 := Lib.hid (Nat.le_trans HWE.out (Below.size hb1))
          clear hb1 k0 hc
          gi_wp2_with fail
          refine ⟨trivial, ?_⟩
          gi_at_call 32
          refine (callsIn_wide.2 (HI.out _ HT1.out.2.2.1)).mono ?_
          rintro e w2 ⟨rfl, hb2⟩
          have HJ2' := Lib.hid (HJ.out _ _ _ HJ1.out (Tch.of_bel hb2 HW1.out))
          have HB2 := Lib.hid (boxed_bel HB1.out hb2)
          have HW2 := Lib.hid (Nat.le_trans HW1.out (Below.size hb2))
          have k0 := HB2.out.cell
          clear hb2
          gi_wp2_with fail
          exact ⟨⟨k', pre, rest, st, i + z, rfl, (by first | rfl | (congr 1; omega)), HP.out, HF.out, ⟨by omega, by omega, HW2.out⟩, HB2.out, HJ2'.out⟩, by simp [intOf]; omega⟩
    · have hie : i = S.length := by omega
      subst hie
      obtain ⟨hle, hcs⟩ := fsr_end hf
      clear hf
      have q0 : decide ((S.length : Int) < (S.length : Int)) = false := by simp
      rcases hcs with ⟨hs0, rfl⟩ | ⟨hs0, rfl⟩
      · have hst2 : ((st.toNat : Nat) : Int) = st := by omega
        obtain ⟨s, hs⟩ : ∃ s : Nat, s = st.toNat := ⟨_, rfl⟩
        rw [← hs] at hst2
        subst hst2
        have qs : decide ((0 : Int) ≤ (s : Int)) = true := by simp
        have qs0 : (0 : Int) ≤ (s : Int) := by omega
        obtain ⟨fn, tmps, assign, body, hy, hR⟩ := HY.out pre (S.drop (s : Int).toNat) wr HJp.out ⟨[], HP.out⟩
        have HRo := Lib.hid hR
        have hx : (⟨S.toArray⟩ : ByteArray).extract s S.length = ⟨(S.drop (s : Int).toNat).toArray⟩ := by rw [cut_str]; simp
        generalize (S.drop (s : Int).toNat) = pc at hx hy HRo HP
        clear hR hs
        gi_wp2_with fail
        refine (roundIn_any HRo.out).mono ?_
        rintro e w9 ⟨(⟨rfl, hj2⟩ | ⟨rfl, hj2⟩), hk2⟩
        · have HJ2 := Lib.hid (show J fs w9 by rw [HP.out]; exact hj2)
          clear hj2 hk2 hy
          gi_wp2_with fail
          go_end0
          exact ⟨⟨_, rfl⟩, .inl HJ2.out⟩
        · have HJ2 := Lib.hid hj2
          clear hj2 hk2 hy
          gi_wp2_with fail
          go_end0
          exact ⟨⟨_, rfl⟩, .inr ⟨_, HJ2.out⟩⟩
      · have qs : decide ((0 : Int) ≤ st) = false := by simpa using hs0
        have HJ2 := Lib.hid (show J fs wr by rw [HP.out, List.append_nil]; exact HJp.out)
        gi_wp2_with fail
        go_end0
        exact ⟨⟨_, rfl⟩, .inl HJ2.out⟩
end Go.Proofs.YtdjaacmaljcnhaaDoor.U
