/- EscapePrints's walk. -/
import Derived.Test.YthdggdjaicfapaaDoorEPrint
import Derived.Test.YthdggdjaicfapaaDoorWReads1
namespace Go.Proofs.YthdggdjaicfapaaDoor.U
open Go.RowKit
set_option linter.unusedVariables false

instance (a b : Int) : Decidable (Sound a b) := by unfold Sound; infer_instance
theorem sound_is (a b : Int) (r : Bool) (w : World) (h : decide (Sound a b) = r) : Calls Tryd.prog 11 #[.agg #[.int .i64 a, .int .i64 b]] w fun e w' => e = .returned (.bool r) ∧ Bel w w' := by
  subst h
  go_enter Tryd.func11, Tryd.ntmps11
  go_wp2
  all_goals go_ret
  all_goals refine ⟨ret_bool ?_, (Bel.refl w).alloc _⟩
  all_goals (rw [Bool.eq_iff_iff]; simp [Sound, Valid]; try omega)

set_option maxHeartbeats 2000000 in
theorem prints_no (f0 f1 t0 t1 : Int) (w : World) (hT : Tb w) (h : ¬ Sound t0 t1) :
    Calls Tryd.prog 4 #[.agg #[.int .i64 f0, .int .i64 f1], .agg #[.int .i64 t0, .int .i64 t1]] w fun e w' => e = .returned (.bool true) ∧ Bel w w' := by
  have H2 := Lib.hid (two_boxes w f0 f1 t0 t1)
  have HB0 : Hid (Bel w ((w.alloc (.cells #[.int .i64 f0, .int .i64 f1] 24)).alloc (.cells #[.int .i64 t0, .int .i64 t1] 24))) := Lib.hid (((Bel.refl w).alloc _).alloc _)
  have HT := Lib.hid (hT.bel HB0.out)
  have HN := Lib.hid h
  clear hT h
  go_enter Tryd.func4, Tryd.ntmps4
  go_wp2_with fail
  with_reducible refine (print_no f0 f1 t0 t1 _ HT.out HN.out).mono ?_
  rintro e w1 ⟨rfl, hb1⟩
  obtain ⟨a0, a1, b0, b1⟩ := H2.out w1 hb1
  have HB1 := Lib.hid (HB0.out.trans hb1)
  have HT1 := Lib.hid (HT.out.bel hb1)
  have HC := Lib.hid (sound_is t0 t1 false w1 (decide_eq_false HN.out))
  clear hb1
  go_wp2_with fail
  with_reducible refine HC.out.mono ?_
  rintro e w2 ⟨rfl, hb2⟩
  have HT2 := Lib.hid (HT1.out.bel hb2)
  go_wp2_with (go_at_call 7; (with_reducible refine (answers_any _ HT2.out).mono ?_); rintro e w3 ⟨rfl, hb3⟩)
  go_ret
  exact ⟨rfl, (HB1.out.trans hb2).trans hb3⟩

def PCase (f0 f1 t0 t1 : Int) (n1 n2 k : Nat) (g0 g1 : Int) : Prop := (k = 0 ∧ g0 = f0 ∧ g1 = f1) ∨ (k = n1 ∧ g0 = t0 ∧ g1 = f1) ∨ (k = n1 + n2 ∧ g0 = t0 ∧ g1 = t1)
/-- What stands of the print: the first escape, the second one. -/
def PRel (W : World) (bs : Nat) (f0 f1 t0 t1 : Int) (n1 n2 : Nat) (i : Value) (w : World) : Prop := ∃ (k : Nat) (g0 g1 : Int), i = .int .i64 k ∧ Two w bs g0 g1 ∧ Below bs W w ∧
  PCase f0 f1 t0 t1 n1 n2 k g0 g1

theorem des_known {side set : Int} (h : Valid side set) : (desL side set, side, set) ∈ escs ∧ (desL side set)[0]? = some 27 ∧ 2 ≤ (desL side set).length := by
  obtain ⟨_, _, h2, _, h0, _, h5, _⟩ := pairs_ok _ (valid_mem h)
  exact ⟨List.mem_of_getElem? h5, h0, h2⟩
theorem prints_end {f0 f1 t0 t1 g0 g1 : Int} {p1 p2 : List Int} {k : Nat} (h : Sound t0 t1) (hp1 : (if f0 = t0 then [] else desL 0 t0) = p1) (hp2 : (if f1 = t1 then [] else desL 1 t1) = p2)
    (hc : PCase f0 f1 t0 t1 p1.length p2.length k g0 g1) (hk : p1.length + p2.length ≤ k) : g0 = t0 ∧ g1 = t1 := by
  have a1 := (des_known h.1).2.2
  have a2 := (des_known h.2).2.2
  have e1 : p1.length = 0 → f0 = t0 := fun e => by
    by_cases q : f0 = t0
    · exact q
    · rw [if_neg q] at hp1; subst hp1; omega
  have e2 : p2.length = 0 → f1 = t1 := fun e => by
    by_cases q : f1 = t1
    · exact q
    · rw [if_neg q] at hp2; subst hp2; omega
  rcases hc with ⟨h1, rfl, rfl⟩ | ⟨h1, rfl, rfl⟩ | ⟨h1, rfl, rfl⟩
  · exact ⟨e1 (by omega), e2 (by omega)⟩
  · exact ⟨rfl, e2 (by omega)⟩
  · exact ⟨rfl, rfl⟩
theorem prints_step {f0 f1 t0 t1 g0 g1 : Int} {p1 p2 : List Int} {k : Nat} (h : Sound t0 t1) (hp1 : (if f0 = t0 then [] else desL 0 t0) = p1) (hp2 : (if f1 = t1 then [] else desL 1 t1) = p2)
    (hc : PCase f0 f1 t0 t1 p1.length p2.length k g0 g1) (hk : k < p1.length + p2.length) :
    ∃ (N : Nat) (y0 y1 : Int), Outs (p1 ++ p2) k g0 g1 y0 y1 N 0 0 ∧ 1 ≤ N ∧ k + N ≤ p1.length + p2.length ∧ PCase f0 f1 t0 t1 p1.length p2.length (k + N) y0 y1 := by
  obtain ⟨m1, z1, a1⟩ := des_known h.1
  obtain ⟨m2, z2, a2⟩ := des_known h.2
  have two : k = p1.length → g0 = t0 → g1 = f1 → ∃ (N : Nat) (y0 y1 : Int), Outs (p1 ++ p2) k g0 g1 y0 y1 N 0 0 ∧ 1 ≤ N ∧ k + N ≤ p1.length + p2.length ∧ PCase f0 f1 t0 t1 p1.length p2.length (k + N) y0 y1 := by
    rintro rfl rfl rfl
    have q : ¬ g1 = t1 := fun q => by rw [if_pos q] at hp2; subst hp2; simp at hk
    rw [if_neg q] at hp2
    have hd : (p1 ++ p2).drop p1.length = p2 := List.drop_left
    refine ⟨p2.length, g0, t1, .inr ⟨p1.length, rfl, ?_, .inr ⟨1, t1, ?_, by rw [newst, if_neg (by decide)], rfl, rfl⟩⟩, by subst hp2; omega, Nat.le_refl _, .inr (.inr ⟨rfl, rfl, rfl⟩)⟩
    · rw [List.getElem?_append_right (Nat.le_refl _), Nat.sub_self, ← hp2]; exact z2
    · rw [hd]
      have := reads_at (a := []) (by rw [hp2] at m2; exact m2) []
      rwa [List.append_nil] at this
  rcases hc with ⟨h1, h2, h3⟩ | ⟨h1, h2, h3⟩ | ⟨h1, h2, h3⟩
  · by_cases q : f0 = t0
    · have e : p1 = [] := by rw [if_pos q] at hp1; exact hp1.symm
      exact two (by rw [h1, e]; rfl) (h2.trans q) h3
    · rw [if_neg q] at hp1
      subst h1 h2 h3
      have hr : Reads (p1 ++ p2) 0 t0 p1.length := reads_at (a := []) (by rw [hp1] at m1; exact m1) p2
      refine ⟨p1.length, t0, g1, .inr ⟨0, rfl, ?_, .inr ⟨0, t0, by rw [List.drop_zero]; exact hr, by rw [newst, if_pos rfl], rfl, rfl⟩⟩, by subst hp1; omega, by omega, .inr (.inl ⟨by omega, rfl, rfl⟩)⟩
      rw [List.getElem?_append_left (by subst hp1; omega), ← hp1]
      exact z1
  · exact two h1 h2 h3
  · omega

set_option maxRecDepth 100000 in
set_option maxHeartbeats 8000000 in
theorem prints_yes (f0 f1 t0 t1 : Int) (p1 p2 : List Int) (w : World) (hT : Tb w) (h : Sound t0 t1)
    (hp1 : (if f0 = t0 then [] else desL 0 t0) = p1) (hp2 : (if f1 = t1 then [] else desL 1 t1) = p2) :
    Calls Tryd.prog 4 #[.agg #[.int .i64 f0, .int .i64 f1], .agg #[.int .i64 t0, .int .i64 t1]] w fun e w' => e = .returned (.bool true) ∧ Bel w w' := by
  obtain ⟨i0, hi0, hz0, hz1, hz2⟩ := info_parts info5
  have H2 := Lib.hid (two_boxes w f0 f1 t0 t1)
  have HB0 : Hid (Bel w ((w.alloc (.cells #[.int .i64 f0, .int .i64 f1] 24)).alloc (.cells #[.int .i64 t0, .int .i64 t1] 24))) := Lib.hid (((Bel.refl w).alloc _).alloc _)
  have HT := Lib.hid (hT.bel HB0.out)
  have HS := Lib.hid h
  have HP1 := Lib.hid hp1
  have HP2 := Lib.hid hp2
  clear hT h hp1 hp2
  go_enter Tryd.func4, Tryd.ntmps4
  go_wp2_with fail
  with_reducible refine (print_yes f0 f1 t0 t1 _ HT.out HS.out).mono ?_
  rintro e w1 ⟨v, rfl, hown, hb1⟩
  have hpl : printL f0 f1 t0 t1 = p1 ++ p2 := by unfold printL; rw [HP1.out, HP2.out]
  rw [hpl] at hown
  obtain ⟨A, c, rfl, hc, hr, _⟩ := hown.rd
  obtain ⟨n, hn⟩ : ∃ n, (p1 ++ p2).length = n := ⟨_, rfl⟩
  rw [hn] at hc ⊢
  obtain ⟨a0, a1, b0, b1⟩ := H2.out w1 hb1
  have HB1 := Lib.hid (HB0.out.trans hb1)
  have HT1 := Lib.hid (HT.out.bel hb1)
  have HR1 := Lib.hid hr
  have HN := Lib.hid hn
  have HC := Lib.hid (sound_is t0 t1 true w1 (decide_eq_true HS.out))
  have HQ1 := Lib.hid hb1
  clear hb1 hown hr hpl hn
  go_wp2_with fail
  with_reducible refine HC.out.mono ?_
  rintro e w2 ⟨rfl, hb2⟩
  obtain ⟨a0, a1, b0, b1⟩ := H2.out w2 (HQ1.out.trans hb2)
  have HQ2 := Lib.hid (HQ1.out.trans hb2)
  have HT2 := Lib.hid (HT1.out.bel hb2)
  have HR2 := Lib.hid (HR1.out.bel hb2).here
  have hsz2 : w.heap.size + 1 < w2.heap.size := cell_block b0
  clear HC hb2 HR1 HT1 HQ1 HB1
  go_wp2_with fail
  generalize hX : w2.alloc (.cells #[.int .i64 f0, .int .i64 f1] 24) = X
  have hbX : Bel w2 X := by rw [← hX]; exact (Bel.refl w2).alloc _
  have HTw : Hid (Two X w2.heap.size f0 f1) := Lib.hid (by rw [← hX]; exact Two.new w2 _ f0 f1)
  clear hX
  have HR3 := Lib.hid HR2.out
  obtain ⟨n1, hn1⟩ : ∃ n1, p1.length = n1 := ⟨_, rfl⟩
  obtain ⟨n2, hn2⟩ : ∃ n2, p2.length = n2 := ⟨_, rfl⟩
  have hn12 : n1 + n2 = n := by rw [← HN.out, List.length_append, hn1, hn2]
  have HN1 := Lib.hid hn1
  have HN2 := Lib.hid hn2
  have HBX := Lib.hid hbX
  have HBP := Lib.hid (fun x (hx : x ∈ p1 ++ p2) => show 0 ≤ x ∧ x < 256 by
    rcases List.mem_append.1 hx with hx | hx
    · rw [← HP1.out] at hx
      by_cases q : f0 = t0
      · rw [if_pos q] at hx; cases hx
      · rw [if_neg q] at hx; exact (pairs_ok _ (valid_mem HS.out.1)).2.1 x hx
    · rw [← HP2.out] at hx
      by_cases q : f1 = t1
      · rw [if_pos q] at hx; cases hx
      · rw [if_neg q] at hx; exact (pairs_ok _ (valid_mem HS.out.2)).2.1 x hx)
  have hn100 : n ≤ 100 := by
    obtain ⟨_, m1, hl1, hm1, _, hm14, _⟩ := des_fine HS.out.1
    obtain ⟨_, m2, hl2, hm2, _, hm24, _⟩ := des_fine HS.out.2
    have h1 : n1 ≤ 4 := by
      rw [← HN1.out, ← HP1.out]
      split
      · simp
      · rw [hl1]; omega
    have h2 : n2 ≤ 4 := by
      rw [← HN2.out, ← HP2.out]
      split
      · simp
      · rw [hl2]; omega
    omega
  clear hn1 hn2 hbX
  have hbs : w2.heap.size < X.heap.size := cell_block HTw.out.1
  go_loopw [7] (fun i wr => PRel X w2.heap.size f0 f1 t0 t1 n1 n2 i wr) (fun i _ => n - (intOf i).toNat)
  case atStart => exact ⟨0, f0, f1, rfl, HTw.out, Below.refl _ _, .inl ⟨rfl, rfl, rfl⟩⟩
  case round =>
    obtain ⟨k, g0, g1, rfl, ht, hbl, hcase⟩ := hrel
    have HBL := Lib.hid hbl
    have HC := Lib.hid hcase
    have HT3 := Lib.hid ht
    have hsr := Below.size hbl
    clear hbl hcase
    by_cases hlt : k < n
    · obtain ⟨N, y0, y1, ho, hN1, hkN, hcase'⟩ := prints_step HS.out HP1.out HP2.out (by rw [HN1.out, HN2.out]; exact HC.out) (by rw [HN1.out, HN2.out]; omega)
      rw [HN1.out, HN2.out] at hcase' hkN
      have HC' := Lib.hid hcase'
      have hrd : Rd wr wr.heap.size .u8 A (p1 ++ p2) := ((HR3.out.below (Below.mono HBX.out (Nat.le_refl _))).below HBL.out).more (by omega)
      have HNX := Lib.hid (rnext_out A n c (p1 ++ p2) k g0 g1 y0 y1 N 0 0 wr hrd HN.out hc (by omega) HBP.out ho)
      obtain ⟨c0, c1, c2, c3⟩ := ht
      have q0 : (k : Int) < (n : Int) := by omega
      have q1 : ¬ (N : Int) < 1 := by omega
      clear hcase' ho hrd
      go_wp2_with fail
      clear c0 c1 c2 c3
      with_reducible refine HNX.out.mono ?_
      rintro e w3 ⟨he3, hb3⟩
      subst he3
      obtain ⟨c0, c1, c2, c3⟩ := HT3.out.bel hb3
      have hs3 : w2.heap.size < w3.heap.size := cell_block c0
      have HB3 := Lib.hid hb3
      clear HNX hb3
      go_wp2
      go_roundw
      case rel => exact ⟨k + N, y0, y1, by go_num, ((HT3.out.bel HB3.out).set y0 y1).bel (((Bel.refl _).alloc _).alloc _), (((((HBL.out.trans (Below.mono HB3.out (by omega))).setCell (by show _ ≤ w2.heap.size; omega) _).setCell (by show _ ≤ w2.heap.size; omega) _).alloc (by simp; omega) _).alloc (by simp; omega) _), HC'.out⟩
      case measure => simp [intOf]; omega
    · obtain ⟨rfl, rfl⟩ := prints_end HS.out HP1.out HP2.out (by rw [HN1.out, HN2.out]; exact HC.out) (by rw [HN1.out, HN2.out]; omega)
      have q0 : ¬ (k : Int) < (n : Int) := by omega
      obtain ⟨L1, hL1⟩ : ∃ L1, desL 0 g0 = L1 := ⟨_, rfl⟩
      obtain ⟨L2, hL2⟩ : ∃ L2, desL 1 g1 = L2 := ⟨_, rfl⟩
      have B1 := Lib.hid (show bestOf 0 g0 escs = some L1 by rw [← hL1]; exact (pairs_ok _ (valid_mem HS.out.1)).1)
      have B2 := Lib.hid (show bestOf 1 g1 escs = some L2 by rw [← hL2]; exact (pairs_ok _ (valid_mem HS.out.2)).1)
      have hl14 : L1.length ≤ 4 := by rw [← hL1]; exact (pairs_ok _ (valid_mem HS.out.1)).2.2.2.1
      have hl24 : L2.length ≤ 4 := by rw [← hL2]; exact (pairs_ok _ (valid_mem HS.out.2)).2.2.2.1
      replace hL1 := Lib.hid hL1
      replace hL2 := Lib.hid hL2
      have HCW : Hid (∀ W : World, Bel wr W → W.cell? ⟨w.heap.size, 0, none⟩ = some (.int .i64 f0) ∧ W.cell? ⟨w.heap.size, 1, none⟩ = some (.int .i64 f1) ∧ W.cell? ⟨w.heap.size + 1, 0, none⟩ = some (.int .i64 g0) ∧ W.cell? ⟨w.heap.size + 1, 1, none⟩ = some (.int .i64 g1)) := Lib.hid fun W hb => by
        have h1 : Below w2.heap.size w2 W := (Below.trans HBX.out HBL.out).trans (Below.mono hb (by omega))
        exact ⟨(Below.cell h1 (p := ⟨w.heap.size, 0, none⟩) (by show w.heap.size < _; omega)).trans a0, (Below.cell h1 (p := ⟨w.heap.size, 1, none⟩) (by show w.heap.size < _; omega)).trans a1, (Below.cell h1 (p := ⟨w.heap.size + 1, 0, none⟩) hsz2).trans b0, (Below.cell h1 (p := ⟨w.heap.size + 1, 1, none⟩) hsz2).trans b1⟩
      have HF := Lib.hid (show Bel w wr from Below.trans (HB0.out.trans (HQ2.out)) (Below.mono (Below.trans HBX.out HBL.out) (by omega)))
      have HRr := Lib.hid (show Rd wr wr.heap.size .u8 A (p1 ++ p2) from ((HR3.out.below (Below.mono HBX.out (Nat.le_refl _))).below HBL.out).more (by omega))
      have HTr := Lib.hid (HT2.out.bel (show Bel w2 wr from Below.trans HBX.out HBL.out))
      obtain ⟨a0, a1, b0, b1⟩ := HCW.out wr (Bel.refl wr)
      have hb0 : w.heap.size + 1 < wr.heap.size := cell_block b0
      have HD1 := Lib.hid (rdes_is 0 g0 (some L1) wr B1.out)
      clear ht HC HR3 HR2 HQ2 HT2 HB0 H2 HBX HTw HBL
      go_wp2_with fail
      with_reducible refine HD1.out.mono ?_
      rintro e y3 ⟨v1, ok1, he, hok, ⟨ga, m1, ca, m1l, hv, hca, hra⟩, hb3⟩
      cases hok
      subst he hv
      clear HD1
      obtain ⟨a0, a1, b0, b1⟩ := HCW.out y3 hb3
      have HY3 := Lib.hid hb3
      have HRa3 := Lib.hid hra
      have HD2 := Lib.hid (rdes_is 1 g1 (some L2) y3 B2.out)
      clear hb3 hra
      go_wp2_with fail
      with_reducible refine HD2.out.mono ?_
      rintro e y4 ⟨v2, ok2, he, hok, ⟨gb, m2, cb, m2l, hv, hcb, hrb⟩, hb4⟩
      cases hok
      subst he hv
      clear HD2
      have HCE : Hid (∀ W : World, Bel y4 W → W.cell? ⟨w.heap.size, 0, none⟩ = some (.int .i64 f0) ∧ W.cell? ⟨w.heap.size, 1, none⟩ = some (.int .i64 f1) ∧ W.cell? ⟨w.heap.size + 1, 0, none⟩ = some (.int .i64 g0) ∧ W.cell? ⟨w.heap.size + 1, 1, none⟩ = some (.int .i64 g1)) := Lib.hid fun W hb => HCW.out W ((HY3.out.trans hb4).trans hb)
      obtain ⟨a0, a1, b0, b1⟩ := HCE.out y4 (Bel.refl y4)
      have HRa := Lib.hid (HRa3.out.bel hb4)
      have HRb := Lib.hid hrb
      have HTE := Lib.hid (HT3.out.bel (HY3.out.trans hb4))
      have HT4 := Lib.hid (HTr.out.bel (HY3.out.trans hb4))
      have HR4 := Lib.hid (HRr.out.bel (HY3.out.trans hb4))
      have HF4 := Lib.hid ((HF.out.trans HY3.out).trans hb4)
      replace m1l := Lib.hid m1l
      replace m2l := Lib.hid m2l
      have hm1 : m1 ≤ 4 := by have := m1l.out; omega
      have hm2 : m2 ≤ 4 := by have := m2l.out; omega
      clear hb4 hrb HRa3 HY3 HCW HRr HTr HF HT3
      by_cases h0 : f0 = g0 <;> by_cases h1 : f1 = g1
      · have q0 : (f0 != g0) = false := by simpa using h0
        have q1 : (f1 != g1) = false := by simpa using h1
        have HPP : Hid (p1 ++ p2 = [] ++ [] ++ []) := Lib.hid (by rw [← HP1.out, ← HP2.out, if_pos h0, if_pos h1]; rfl)
        clear h0 h1
        have HW0 := Lib.hid (Own.nil y4 y4.heap.size 5 .u8)
        go_wp2_with (first
          | fail)
        have HBZ : Hid (Bel y4 y4) := Lib.hid (Bel.refl y4)
        obtain ⟨Aw, cw, ew, hcw, hrw, _⟩ := (show Own y4 y4.heap.size 5 .u8 _ [] from HW0.out).rd
        cases ew
        have HRW := Lib.hid hrw
        clear hcw hrw
        with_reducible refine (answers_any _ (HT4.out.bel HBZ.out)).mono ?_
        rintro e z1 ⟨he, hbz⟩
        subst he
        have HBZ2 := Lib.hid (HBZ.out.trans hbz)
        obtain ⟨a0, a1, b0, b1⟩ := HCE.out z1 HBZ2.out
        obtain ⟨x0, x1, _, _⟩ := HTE.out.bel HBZ2.out
        have HSM := Lib.hid (same_is A none n 0 c 0 (p1 ++ p2) [] _ _ true z1 (HR4.out.bel HBZ2.out) (HRW.out.bel hbz) HN.out rfl (by omega) (decide_eq_true (by rw [HPP.out]; simp)))
        clear hbz
        go_wp2_with fail
        with_reducible refine HSM.out.mono ?_
        rintro e z2 ⟨he, q, hq⟩
        subst he hq
        go_wp2
        go_ret
        exact ⟨rfl, (HF4.out.trans HBZ2.out).drewN q⟩
      · have q0 : (f0 != g0) = false := by simpa using h0
        have q1 : (f1 != g1) = true := by simpa using h1
        have HPP : Hid (p1 ++ p2 = [] ++ [] ++ L2) := Lib.hid (by rw [← HP1.out, ← HP2.out, if_pos h0, if_neg h1, hL2.out]; rfl)
        clear h0 h1
        have HW0 := Lib.hid (Own.nil y4 y4.heap.size 5 .u8)
        go_wp2_with (first
          | (at_builtin; refine wpl_append (by rfl) (.tmp 77) (.tmp 78) 22 rfl Tryd.underlying22 hi0 hz0 hz1 hz2 rfl (by omega) HW0.out rfl HRb.out rfl m2l.out (fun e => by cases e) (by simp; omega) (Nat.le_refl _) ?_; intro v6 y6 hown6 hb6)
          | fail)
        have HBZ : Hid (Bel y4 y6) := Lib.hid (show Bel y4 y6 from hb6)
        obtain ⟨nw, hnw⟩ : ∃ nw, ([] ++ L2).length = nw := ⟨_, rfl⟩
        obtain ⟨Aw, cw, ew, hcw, hrw, _⟩ := (show Own y6 y4.heap.size 5 .u8 _ ([] ++ L2) from hown6).rd
        rw [hnw] at ew
        subst ew
        replace hnw := Lib.hid hnw
        have HRW := Lib.hid hrw
        clear hcw hrw
        with_reducible refine (answers_any _ (HT4.out.bel HBZ.out)).mono ?_
        rintro e z1 ⟨he, hbz⟩
        subst he
        have HBZ2 := Lib.hid (HBZ.out.trans hbz)
        obtain ⟨a0, a1, b0, b1⟩ := HCE.out z1 HBZ2.out
        obtain ⟨x0, x1, _, _⟩ := HTE.out.bel HBZ2.out
        have HSM := Lib.hid (same_is A Aw n nw c cw (p1 ++ p2) ([] ++ L2) _ _ true z1 (HR4.out.bel HBZ2.out) (HRW.out.bel hbz) HN.out hnw.out (by omega) (decide_eq_true (by rw [HPP.out]; simp)))
        clear hbz
        go_wp2_with fail
        with_reducible refine HSM.out.mono ?_
        rintro e z2 ⟨he, q, hq⟩
        subst he hq
        go_wp2
        go_ret
        exact ⟨rfl, (HF4.out.trans HBZ2.out).drewN q⟩
      · have q0 : (f0 != g0) = true := by simpa using h0
        have q1 : (f1 != g1) = false := by simpa using h1
        have HPP : Hid (p1 ++ p2 = [] ++ L1 ++ []) := Lib.hid (by rw [← HP1.out, ← HP2.out, if_neg h0, hL1.out, if_pos h1]; rfl)
        clear h0 h1
        have HW0 := Lib.hid (Own.nil y4 y4.heap.size 5 .u8)
        go_wp2_with (first
          | (at_builtin; refine wpl_append (by rfl) (.tmp 69) (.tmp 70) 22 rfl Tryd.underlying22 hi0 hz0 hz1 hz2 rfl (by omega) HW0.out rfl HRa.out rfl m1l.out (fun e => by cases e) (by simp; omega) (Nat.le_refl _) ?_; intro v5 y5 hown5 hb5; have hb5' : Bel y4 y5 := hb5; have HW1 := Lib.hid hown5; obtain ⟨a0, a1, b0, b1⟩ := HCE.out y5 hb5'; have HRb5 := Lib.hid (HRb.out.bel hb5'); have hs5 : y4.heap.size ≤ y5.heap.size := Below.size hb5')
          | fail)
        have HBZ : Hid (Bel y4 y5) := Lib.hid hb5'
        obtain ⟨nw, hnw⟩ : ∃ nw, ([] ++ L1).length = nw := ⟨_, rfl⟩
        obtain ⟨Aw, cw, ew, hcw, hrw, _⟩ := (show Own y5 y4.heap.size 5 .u8 _ ([] ++ L1) from HW1.out).rd
        rw [hnw] at ew
        subst ew
        replace hnw := Lib.hid hnw
        have HRW := Lib.hid hrw
        clear hcw hrw
        with_reducible refine (answers_any _ (HT4.out.bel HBZ.out)).mono ?_
        rintro e z1 ⟨he, hbz⟩
        subst he
        have HBZ2 := Lib.hid (HBZ.out.trans hbz)
        obtain ⟨a0, a1, b0, b1⟩ := HCE.out z1 HBZ2.out
        obtain ⟨x0, x1, _, _⟩ := HTE.out.bel HBZ2.out
        have HSM := Lib.hid (same_is A Aw n nw c cw (p1 ++ p2) ([] ++ L1) _ _ true z1 (HR4.out.bel HBZ2.out) (HRW.out.bel hbz) HN.out hnw.out (by omega) (decide_eq_true (by rw [HPP.out]; simp)))
        clear hbz
        go_wp2_with fail
        with_reducible refine HSM.out.mono ?_
        rintro e z2 ⟨he, q, hq⟩
        subst he hq
        go_wp2
        go_ret
        exact ⟨rfl, (HF4.out.trans HBZ2.out).drewN q⟩
      · have q0 : (f0 != g0) = true := by simpa using h0
        have q1 : (f1 != g1) = true := by simpa using h1
        have HPP : Hid (p1 ++ p2 = [] ++ L1 ++ L2) := Lib.hid (by rw [← HP1.out, ← HP2.out, if_neg h0, hL1.out, if_neg h1, hL2.out]; rfl)
        clear h0 h1
        have HW0 := Lib.hid (Own.nil y4 y4.heap.size 5 .u8)
        have hlen12 : ([] ++ L1).length + m2 ≤ 100000 := by have := m1l.out; simp; omega
        go_wp2_with (first
          | (at_builtin; refine wpl_append (by rfl) (.tmp 69) (.tmp 70) 22 rfl Tryd.underlying22 hi0 hz0 hz1 hz2 rfl (by omega) HW0.out rfl HRa.out rfl m1l.out (fun e => by cases e) (by simp; omega) (Nat.le_refl _) ?_; intro v5 y5 hown5 hb5; have hb5' : Bel y4 y5 := hb5; have HW1 := Lib.hid hown5; obtain ⟨a0, a1, b0, b1⟩ := HCE.out y5 hb5'; have HRb5 := Lib.hid (HRb.out.bel hb5'); have hs5 : y4.heap.size ≤ y5.heap.size := Below.size hb5')
          | (at_builtin; refine wpl_append (by rfl) (.tmp 77) (.tmp 78) 22 rfl Tryd.underlying22 hi0 hz0 hz1 hz2 rfl (by omega) HW1.out rfl HRb5.out rfl m2l.out (fun e => by cases e) hlen12 hs5 ?_; intro v6 y6 hown6 hb6)
          | fail)
        have HBZ : Hid (Bel y4 y6) := Lib.hid (Below.trans hb5' hb6)
        obtain ⟨nw, hnw⟩ : ∃ nw, ([] ++ L1 ++ L2).length = nw := ⟨_, rfl⟩
        obtain ⟨Aw, cw, ew, hcw, hrw, _⟩ := (show Own y6 y4.heap.size 5 .u8 _ ([] ++ L1 ++ L2) from hown6).rd
        rw [hnw] at ew
        subst ew
        replace hnw := Lib.hid hnw
        have HRW := Lib.hid hrw
        clear hcw hrw
        with_reducible refine (answers_any _ (HT4.out.bel HBZ.out)).mono ?_
        rintro e z1 ⟨he, hbz⟩
        subst he
        have HBZ2 := Lib.hid (HBZ.out.trans hbz)
        obtain ⟨a0, a1, b0, b1⟩ := HCE.out z1 HBZ2.out
        obtain ⟨x0, x1, _, _⟩ := HTE.out.bel HBZ2.out
        have HSM := Lib.hid (same_is A Aw n nw c cw (p1 ++ p2) ([] ++ L1 ++ L2) _ _ true z1 (HR4.out.bel HBZ2.out) (HRW.out.bel hbz) HN.out hnw.out (by omega) (decide_eq_true (by rw [HPP.out])))
        clear hbz
        go_wp2_with fail
        with_reducible refine HSM.out.mono ?_
        rintro e z2 ⟨he, q, hq⟩
        subst he hq
        go_wp2
        go_ret
        exact ⟨rfl, (HF4.out.trans HBZ2.out).drewN q⟩

theorem prints_any (f0 f1 t0 t1 : Int) (w : World) (hT : Tb w) :
    Calls Tryd.prog 4 #[.agg #[.int .i64 f0, .int .i64 f1], .agg #[.int .i64 t0, .int .i64 t1]] w fun e w' => e = .returned (.bool true) ∧ Bel w w' := by
  by_cases h : Sound t0 t1
  · exact prints_yes f0 f1 t0 t1 _ _ w hT h rfl rfl
  · exact prints_no f0 f1 t0 t1 w hT h
end Go.Proofs.YthdggdjaicfapaaDoor.U
