/- What escape.Print answers; what the law's own helper answers. -/
import Derived.Test.YthdggdjaicfapaaDoorENext2
import Derived.Test.YthdggdjaicfapaaDoorDes
namespace Go.Proofs.YthdggdjaicfapaaDoor.U
open Go.RowKit
set_option linter.unusedVariables false

theorem next_at (A : Option Addr) (n c k : Nat) (z : Int) (l : List Int) (s0 s1 : Int) (w : World) (hz : (k : Int) = z) (hT : Tb w) (hA : Rd w w.heap.size .u8 A l) (hn : l.length = n) (hc : n ≤ c) (hn' : n ≤ 9223372036854770000) (hb : ∀ x ∈ l, 0 ≤ x ∧ x < 256) (hk : l[k]? = some 27) :
    Calls Tryd.prog 8 #[.slice A n c, .int .i64 z, .agg #[.int .i64 s0, .int .i64 s1]] w (NextP w l k s0 s1) := by
  subst hz
  exact next_any A n c k l s0 s1 w hT hA hn hc hn' hb hk
theorem rnext_at (A : Option Addr) (n c k : Nat) (z : Int) (l : List Int) (s0 s1 : Int) (w : World) (hz : (k : Int) = z) (hA : Rd w w.heap.size .u8 A l) (hn : l.length = n) (hc : n ≤ c) (hn' : n ≤ 9223372036854770000) (hb : ∀ x ∈ l, 0 ≤ x ∧ x < 256) (hk : l[k]? = some 27) :
    Calls Tryd.prog 9 #[.slice A n c, .int .i64 z, .agg #[.int .i64 s0, .int .i64 s1]] w (NextP w l k s0 s1) := by
  subst hz
  exact rnext_any A n c k l s0 s1 w hA hn hc hn' hb hk
/-- Both parts may be. -/
def Sound (s0 s1 : Int) : Prop := Valid 0 s0 ∧ Valid 1 s1
def printL (f0 f1 t0 t1 : Int) : List Int := (if f0 = t0 then [] else desL 0 t0) ++ (if f1 = t1 then [] else desL 1 t1)
def PrintYes (w : World) (l : List Int) (e : Ending) (w' : World) : Prop := ∃ v, e = .returned v ∧ Own w' w.heap.size 5 .u8 v l ∧ Bel w w'
theorem des_fine {side set : Int} (h : Valid side set) : ∃ l n, desL side set = l ∧ l.length = n ∧ 2 ≤ n ∧ n ≤ 4 ∧ (∀ x ∈ l, 0 ≤ x ∧ x < 256) := by
  obtain ⟨_, h1, h2, h3, _⟩ := pairs_ok _ (valid_mem h)
  exact ⟨_, _, rfl, rfl, h2, h3, h1⟩

theorem two_boxes (w : World) (f0 f1 t0 t1 : Int) : ∀ W : World, Bel ((w.alloc (.cells #[.int .i64 f0, .int .i64 f1] 24)).alloc (.cells #[.int .i64 t0, .int .i64 t1] 24)) W →
    W.cell? ⟨w.heap.size, 0, none⟩ = some (.int .i64 f0) ∧ W.cell? ⟨w.heap.size, 1, none⟩ = some (.int .i64 f1) ∧ W.cell? ⟨w.heap.size + 1, 0, none⟩ = some (.int .i64 t0) ∧ W.cell? ⟨w.heap.size + 1, 1, none⟩ = some (.int .i64 t1) := by
  intro W hb
  refine ⟨?_, ?_, ?_, ?_⟩
  · refine (Below.cell hb (p := ⟨w.heap.size, 0, none⟩) (by simp; omega)).trans (by simp [go_sem])
  · refine (Below.cell hb (p := ⟨w.heap.size, 1, none⟩) (by simp; omega)).trans (by simp [go_sem])
  · refine (Below.cell hb (p := ⟨w.heap.size + 1, 0, none⟩) (by simp)).trans (by simp [go_sem])
  · refine (Below.cell hb (p := ⟨w.heap.size + 1, 1, none⟩) (by simp)).trans (by simp [go_sem])

set_option maxHeartbeats 2000000 in
theorem print_no (f0 f1 t0 t1 : Int) (w : World) (hT : Tb w) (h : ¬ Sound t0 t1) :
    Calls Tryd.prog 10 #[.agg #[.int .i64 f0, .int .i64 f1], .agg #[.int .i64 t0, .int .i64 t1]] w fun e w' => e = .returned (.slice none 0 0) ∧ Bel w w' := by
  have HT := Lib.hid hT
  have H2 := Lib.hid (two_boxes w f0 f1 t0 t1)
  have HB0 : Hid (Bel w ((w.alloc (.cells #[.int .i64 f0, .int .i64 f1] 24)).alloc (.cells #[.int .i64 t0, .int .i64 t1] 24))) := Lib.hid (((Bel.refl w).alloc _).alloc _)
  by_cases h0 : Valid 0 t0
  · have h1 : ¬ Valid 1 t1 := fun h1 => h ⟨h0, h1⟩
    obtain ⟨l, n, hl, hn, _⟩ := des_fine h0
    have HL := Lib.hid hl
    have HN := Lib.hid hn
    have H0 := Lib.hid h0
    have H1 := Lib.hid h1
    clear hT h hl hn h0 h1
    go_enter Tryd.func10, Tryd.ntmps10
    go_wp2_with fail
    with_reducible refine (des_yes 0 t0 l n _ (HT.out.bel HB0.out) H0.out HL.out HN.out).mono ?_
    rintro e w1 ⟨g, cap, rfl, _, _, hb1, _⟩
    obtain ⟨a0, a1, b0, b1⟩ := H2.out w1 hb1
    have HB1 := Lib.hid (HB0.out.trans hb1)
    clear hb1
    go_wp2_with fail
    with_reducible refine (des_no 1 t1 w1 H1.out).mono ?_
    rintro e w2 ⟨rfl, hb2⟩
    go_wp2
    go_ret
    exact ⟨rfl, HB1.out.trans hb2⟩
  · have H0 := Lib.hid h0
    clear hT h h0
    go_enter Tryd.func10, Tryd.ntmps10
    go_wp2_with fail
    with_reducible refine (des_no 0 t0 _ H0.out).mono ?_
    rintro e w1 ⟨rfl, hb1⟩
    obtain ⟨a0, a1, b0, b1⟩ := H2.out w1 hb1
    have HB1 := Lib.hid (HB0.out.trans hb1)
    clear hb1
    by_cases h1 : Valid 1 t1
    · obtain ⟨l, n, hl, hn, _⟩ := des_fine h1
      have HL := Lib.hid hl
      have HN := Lib.hid hn
      have H1 := Lib.hid h1
      clear hl hn h1
      go_wp2_with fail
      with_reducible refine (des_yes 1 t1 l n w1 (HT.out.bel HB1.out) H1.out HL.out HN.out).mono ?_
      rintro e w2 ⟨g, cap, rfl, _, _, hb2, _⟩
      go_wp2
      go_ret
      exact ⟨rfl, HB1.out.trans hb2⟩
    · have H1 := Lib.hid h1
      clear h1
      go_wp2_with fail
      with_reducible refine (des_no 1 t1 w1 H1.out).mono ?_
      rintro e w2 ⟨rfl, hb2⟩
      go_wp2
      go_ret
      exact ⟨rfl, HB1.out.trans hb2⟩

set_option maxHeartbeats 4000000 in
theorem print_yes (f0 f1 t0 t1 : Int) (w : World) (hT : Tb w) (h : Sound t0 t1) :
    Calls Tryd.prog 10 #[.agg #[.int .i64 f0, .int .i64 f1], .agg #[.int .i64 t0, .int .i64 t1]] w (PrintYes w (printL f0 f1 t0 t1)) := by
  obtain ⟨i0, hi0, hz0, hz1, hz2⟩ := info_parts info5
  have HT := Lib.hid hT
  have H2 := Lib.hid (two_boxes w f0 f1 t0 t1)
  have HB0 : Hid (Bel w ((w.alloc (.cells #[.int .i64 f0, .int .i64 f1] 24)).alloc (.cells #[.int .i64 t0, .int .i64 t1] 24))) := Lib.hid (((Bel.refl w).alloc _).alloc _)
  obtain ⟨h0, h1⟩ := h
  obtain ⟨l1, n1, hl1, hn1, _, hn14, _⟩ := des_fine h0
  obtain ⟨l2, n2, hl2, hn2, _, hn24, _⟩ := des_fine h1
  have HL1 := Lib.hid hl1
  have HN1 := Lib.hid hn1
  have HL2 := Lib.hid hl2
  have HN2 := Lib.hid hn2
  have H0 := Lib.hid h0
  have H1 := Lib.hid h1
  clear hT h0 h1 hl1 hn1 hl2 hn2
  go_enter Tryd.func10, Tryd.ntmps10
  go_wp2_with fail
  with_reducible refine (des_yes 0 t0 l1 n1 _ (HT.out.bel HB0.out) H0.out HL1.out HN1.out).mono ?_
  rintro e w1 ⟨g1, cap1, rfl, _, _, hb1, hown1⟩
  obtain ⟨a0, a1, b0, b1⟩ := H2.out w1 hb1
  have HB1 := Lib.hid (HB0.out.trans hb1)
  go_wp2_with fail
  with_reducible refine (des_yes 1 t1 l2 n2 w1 (HT.out.bel HB1.out) H1.out HL2.out HN2.out).mono ?_
  rintro e w2 ⟨g2, cap2, rfl, _, hr2, hb2, _⟩
  obtain ⟨a0, a1, b0, b1⟩ := H2.out w2 (hb1.trans hb2)
  have HB2 := Lib.hid (HB1.out.trans hb2)
  have hsz : w.heap.size ≤ w2.heap.size := Below.size HB2.out
  clear hb1 HB1
  by_cases c0 : f0 = t0 <;> by_cases c1 : f1 = t1
  · have q0 : (f0 == t0) = true := by simpa using c0
    have q1 : (f1 == t1) = true := by simpa using c1
    have HO : Hid (Own w2 w.heap.size 5 .u8 (.slice none 0 0) []) := Lib.hid (Own.nil w2 w.heap.size 5 .u8)
    have HRD : Hid (Rd w2 w2.heap.size .u8 none []) := Lib.hid (Rd.nil)
    have HPL : Hid (printL f0 f1 t0 t1 = [] ++ []) := Lib.hid (by unfold printL; rw [if_pos c0, if_pos c1])
    have hnl : ([] : List Int).length + 0 ≤ 100000 := by simp
    clear c0 c1 hown1 hr2 hb2
    go_wp2_with (first
      | (at_builtin; refine wpl_append (by rfl) (.tmp 37) (.tmp 38) 22 rfl Tryd.underlying22 hi0 hz0 hz1 hz2 rfl (by omega) HO.out rfl HRD.out rfl rfl (fun _ => rfl) hnl hsz ?_; intro v3 w3 hown3 hb3)
      | fail)
    go_ret
    exact ⟨v3, rfl, by rw [HPL.out]; exact hown3, Below.trans HB2.out (Below.mono hb3 (Nat.le_refl _))⟩
  · have q0 : (f0 == t0) = true := by simpa using c0
    have q1 : (f1 == t1) = false := by simpa using c1
    have HO : Hid (Own w2 w.heap.size 5 .u8 (.slice none 0 0) []) := Lib.hid (Own.nil w2 w.heap.size 5 .u8)
    have HRD : Hid (Rd w2 w2.heap.size .u8 (some ⟨g2, 0, none⟩) l2) := Lib.hid (hr2)
    have HPL : Hid (printL f0 f1 t0 t1 = [] ++ l2) := Lib.hid (by unfold printL; rw [if_pos c0, if_neg c1, HL2.out])
    have hnl : ([] : List Int).length + n2 ≤ 100000 := by simp; omega
    clear c0 c1 hown1 hr2 hb2
    go_wp2_with (first
      | (at_builtin; refine wpl_append (by rfl) (.tmp 37) (.tmp 38) 22 rfl Tryd.underlying22 hi0 hz0 hz1 hz2 rfl (by omega) HO.out rfl HRD.out rfl HN2.out (fun e => by cases e) hnl hsz ?_; intro v3 w3 hown3 hb3)
      | fail)
    go_ret
    exact ⟨v3, rfl, by rw [HPL.out]; exact hown3, Below.trans HB2.out (Below.mono hb3 (Nat.le_refl _))⟩
  · have q0 : (f0 == t0) = false := by simpa using c0
    have q1 : (f1 == t1) = true := by simpa using c1
    have HO : Hid (Own w2 w.heap.size 5 .u8 (.slice (some ⟨g1, 0, none⟩) n1 cap1) l1) := Lib.hid ((hown1.keep hb2).less (by simp; omega))
    have HRD : Hid (Rd w2 w2.heap.size .u8 none []) := Lib.hid (Rd.nil)
    have HPL : Hid (printL f0 f1 t0 t1 = l1 ++ []) := Lib.hid (by unfold printL; rw [if_neg c0, if_pos c1, HL1.out])
    have hnl : (l1 : List Int).length + 0 ≤ 100000 := by have := HN1.out; omega
    clear c0 c1 hown1 hr2 hb2
    go_wp2_with (first
      | (at_builtin; refine wpl_append (by rfl) (.tmp 37) (.tmp 38) 22 rfl Tryd.underlying22 hi0 hz0 hz1 hz2 rfl (by omega) HO.out rfl HRD.out rfl rfl (fun _ => rfl) hnl hsz ?_; intro v3 w3 hown3 hb3)
      | fail)
    go_ret
    exact ⟨v3, rfl, by rw [HPL.out]; exact hown3, Below.trans HB2.out (Below.mono hb3 (Nat.le_refl _))⟩
  · have q0 : (f0 == t0) = false := by simpa using c0
    have q1 : (f1 == t1) = false := by simpa using c1
    have HO : Hid (Own w2 w.heap.size 5 .u8 (.slice (some ⟨g1, 0, none⟩) n1 cap1) l1) := Lib.hid ((hown1.keep hb2).less (by simp; omega))
    have HRD : Hid (Rd w2 w2.heap.size .u8 (some ⟨g2, 0, none⟩) l2) := Lib.hid (hr2)
    have HPL : Hid (printL f0 f1 t0 t1 = l1 ++ l2) := Lib.hid (by unfold printL; rw [if_neg c0, if_neg c1, HL1.out, HL2.out])
    have hnl : (l1 : List Int).length + n2 ≤ 100000 := by have := HN1.out; omega
    clear c0 c1 hown1 hr2 hb2
    go_wp2_with (first
      | (at_builtin; refine wpl_append (by rfl) (.tmp 37) (.tmp 38) 22 rfl Tryd.underlying22 hi0 hz0 hz1 hz2 rfl (by omega) HO.out rfl HRD.out rfl HN2.out (fun e => by cases e) hnl hsz ?_; intro v3 w3 hown3 hb3)
      | fail)
    go_ret
    exact ⟨v3, rfl, by rw [HPL.out]; exact hown3, Below.trans HB2.out (Below.mono hb3 (Nat.le_refl _))⟩

/-- What the law's helper answers. -/
theorem read_three : Reads [27, 40, 83] 0 3 3 := ⟨[27, 40, 83], by decide, rfl, List.prefix_refl _⟩
set_option maxHeartbeats 2000000 in
theorem answers_any (w : World) (h : Tb w) : Calls Tryd.prog 7 #[] w fun e w' => e = .returned (.bool true) ∧ Bel w w' := by
  have HT := Lib.hid h
  have hcv := Lib.run_convert_bytes_const (P := Tryd.prog) w 22 5 #[.int .u8 27, .int .u8 40, .int .u8 83] 3 3 Tryd.underlying22 Tryd.underlying5
  have HR := Lib.hid (rd_mark (w := w) (t := 5) (fr := (3, 4)) (cs := #[.int .u8 27, .int .u8 40, .int .u8 83]) (l := [27, 40, 83]) (k := .u8) rfl)
  clear h
  go_enter Tryd.func7, Tryd.ntmps7
  go_wp2_with fail
  with_reducible refine (next_at (some ⟨w.heap.size, 0, none⟩) 3 3 0 0 [27, 40, 83] 1 2 _ rfl (HT.out.bel ((Bel.refl w).alloc _)) HR.out rfl (by omega) (by omega) (by simp) rfl).mono ?_
  rintro e w1 hp
  have hq : e = .returned (.tuple #[.agg #[.int .i64 3, .int .i64 2], .int .i64 3, .agg #[.int .i64 0, .int .i64 0]]) ∧ Bel (w.alloc (.cells #[.int .u8 27, .int .u8 40, .int .u8 83] 5 (3, 4))) w1 := by
    rcases hp with ⟨hno, _⟩ | ⟨side, set, N, hr, hp⟩
    · exact (reads_no read_three hno).elim
    · obtain ⟨rfl, rfl, rfl⟩ := reads_one hr read_three
      exact hp
  obtain ⟨rfl, hb⟩ := hq
  clear hp
  go_wp2
  go_ret
  exact ⟨rfl, (((((Bel.refl w).alloc _).trans hb).alloc _).alloc _)⟩
end Go.Proofs.YthdggdjaicfapaaDoor.U
