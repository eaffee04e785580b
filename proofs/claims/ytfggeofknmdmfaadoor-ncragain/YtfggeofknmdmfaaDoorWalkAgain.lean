/- NcrAgain answers true at every number; nothing that was there is changed. The library's table of trailing zeros must hold what it holds. -/
import Derived.Test.YtfggeofknmdmfaaDoorWalkScans
namespace Go.Proofs.YtfggeofknmdmfaaDoor.U
open Go.RowKit
set_option linter.unusedVariables false

theorem ref_38 : refL 38 = [38, 35, 120, 48, 48, 50, 54, 59] := by decide
theorem asc_append {a b : List Int} (ha : Asc a) (hb : Asc b) : Asc (a ++ b) := fun x hx => by
  rcases List.mem_append.1 hx with h | h
  · exact ha x h
  · exact hb x h
theorem asc_drop {a : List Int} (ha : Asc a) (k : Nat) : Asc (a.drop k) := fun x hx => ha x (List.mem_of_mem_drop hx)
theorem ref_cons {c : Int} (h : scB c = true) : refL c = 38 :: (refL c).drop 1 := by rw [ref_yes h]; rfl

/-- '[]rune(string(b))' of ASCII: what both conversions give. -/
theorem conv_both {w : World} {B g off n : Nat} {l : List Int} (h : Rd w B .u8 (some ⟨g, off, none⟩) l) (hA : Asc l) (hn : l.length = n) (hb : n ≤ 100000) :
    ∃ S cap w', (∀ c, (convert 24 9 (.slice (some ⟨g, off, none⟩) n c)).run Tryd.prog w = .ok (.string S) w) ∧ (convert 9 22 (.string S)).run Tryd.prog w = .ok (.slice (some ⟨w.heap.size, 0, none⟩) n cap) w' ∧
      Own w' w.heap.size 21 .i32 (.slice (some ⟨w.heap.size, 0, none⟩) n cap) l ∧ n ≤ cap ∧ Rd w' w'.heap.size .i32 (some ⟨w.heap.size, 0, none⟩) l ∧ Bel w w' := by
  obtain ⟨cap, w', h1, h2, h3⟩ := run_runes_str (P := Tryd.prog) w 9 22 21 Tryd.underlying9 Tryd.underlying22 Tryd.underlying21 hA hn hb
  obtain ⟨A, cap', e, hc, hr, _⟩ := h2.rdn hn
  injection e with e1 e2 e3
  subst e1 e3
  exact ⟨str l, cap, w', fun c => run_str_bytes (P := Tryd.prog) w 24 9 5 Tryd.underlying24 Tryd.underlying5 Tryd.underlying9 h hn (asc_byte hA), h1, h2, hc, hr, h3⟩

set_option maxRecDepth 100000 in
set_option maxHeartbeats 2000000 in
theorem walk_again (c : Int) (w : World) (hT : Tz w) : Calls Tryd.prog 6 #[.int .i32 c] w fun e w' => e = .returned (.bool true) ∧ Bel w w' := by
  obtain ⟨i0, hi0, hz0, hz1, hz2⟩ := info_parts info5
  have kc := fun (w : World) (C : Array Value) (n c : Nat) => Lib.run_convert_bytes_const (P := Tryd.prog) w 24 5 C n c Tryd.underlying24 Tryd.underlying5
  have HT := Lib.hid hT
  obtain ⟨m, hm⟩ : ∃ m, (refL c).length = m := ⟨_, rfl⟩
  have HM := Lib.hid hm
  clear hT hm
  by_cases hs : scB c = true
  · have hm8 := ref_pos hs
    rw [HM.out] at hm8
    have HS := Lib.hid hs
    clear hs
    go_enter Tryd.func6, Tryd.ntmps6
    go_wp2_with fail
    refine (ref_is c m w HM.out).mono ?_
    rintro e w1 ⟨A1, cap1, rfl, hcap1, hown1, hrd1, hnil1, hb1⟩
    obtain ⟨g1, o1, rfl, _, _⟩ := hrd1.isSome (by rw [HM.out]; omega)
    have q0 : ((m : Int) == 0) = false := by simp; omega
    have q1 : (1 : Int) ≤ (m : Int) := by omega
    have q2 : ¬ cap1 = 1 := by omega
    have HR1 := Lib.hid hrd1
    have HQ : Hid (Rd (w1.alloc (.cells #[.int .u8 38, .int .u8 35, .int .u8 120, .int .u8 48, .int .u8 48, .int .u8 50, .int .u8 54, .int .u8 59] 5 (8, 9))) w1.heap.size .u8 (some ⟨g1, o1 + 1, none⟩) ((refL c).drop 1)) := Lib.hid ((hrd1.alloc _).drop)
    have HQL : Hid (((refL c).drop 1).length = m - 1) := Lib.hid (by rw [List.length_drop, HM.out])
    have HTW : Hid ([38, 35, 120, 48, 48, 50, 54, 59] ++ (refL c).drop 1 = refL 38 ++ (refL c).drop 1) := Lib.hid (by rw [ref_38])
    have HT2 : Hid ((refL 38 ++ (refL c).drop 1).length = m + 7) := Lib.hid (by rw [ref_38, List.length_append, HQL.out]; simp; omega)
    have HA2 : Hid (Asc (refL 38 ++ (refL c).drop 1)) := Lib.hid (asc_append (ref_asc 38) (asc_drop (ref_asc c) 1))
    clear hown1 hrd1 hnil1
    go_wp2_with (first
      | (at_builtin; refine wpl_append_ext (by rfl) (.tmp 14) (.tmp 16) 24 rfl Tryd.underlying24 hi0 hz0 hz1 hz2 rfl (by omega) (base := w1.heap.size) (.inr ⟨w1.heap.size, 0, rfl, (rd_mark (l := [38, 35, 120, 48, 48, 50, 54, 59]) rfl).here⟩) rfl HQ.out rfl HQL.out (by omega) (by simp; omega) (by simp) ?_; intro v2 w2 hown2 hb2; rw [HTW.out] at hown2; obtain ⟨A2, cap2, rfl, hcap2, hrd2, _⟩ := hown2.rdn HT2.out; obtain ⟨g2, o2, rfl, _, _⟩ := hrd2.isSome (by rw [HT2.out]; omega); obtain ⟨S2, cap3, w3, hrun2, hrun3, hown3, hcap3, hrd3, hb3⟩ := conv_both hrd2 HA2.out HT2.out (by omega); have HR3 := Lib.hid hrd3; clear hown2 hown3 hrd2 hrd3)
      | fail)
    have hbw2 : Bel w1 w2 := Below.trans ((Bel.refl w1).alloc _) hb2
    have hbw3 := (hb1.trans hbw2).trans hb3
    clear hb2
    refine (expand_is _ (m + 7) cap3 (refL 38 ++ (refL c).drop 1) (refL c) m w3 HR3.out HT2.out hcap3 (by omega) (exp_again HS.out (ref_cons HS.out)) HM.out).mono ?_
    rintro e w4 ⟨A4, cap4, rfl, hcap4, hown4, hrd4, hnil4, hb4⟩
    have HR4 := Lib.hid hrd4
    have hbw4 := hbw3.trans hb4
    clear hown4 hrd4 hnil4
    go_wp2_with fail
    refine (expand_is A4 m cap4 (refL c) [c] 1 w4 HR4.out HM.out hcap4 (by omega) (exp_single HS.out) rfl).mono ?_
    rintro e w5 ⟨A5, cap5, rfl, hcap5, hown5, hrd5, hnil5, hb5⟩
    have HR5 := Lib.hid hrd5
    have hbw5 := hbw4.trans hb5
    clear hown5 hrd5 hnil5
    go_wp2_with fail
    refine (answers_any w5 (HT.out.bel hbw5)).mono ?_
    rintro e w6 ⟨rfl, hb6⟩
    have hbw6 := hbw5.trans hb6
    have hb16 : Bel w1 w6 := (((hbw2.trans hb3).trans hb4).trans hb5).trans hb6
    obtain ⟨S6, cap7, w7, hrun6, hrun7, hown7, hcap7, hrd7, hb7⟩ := conv_both (HR1.out.bel hb16) (ref_asc c) HM.out (by omega)
    have HR7 := Lib.hid hrd7
    have HR47 := Lib.hid (((HR4.out.bel hb5).bel hb6).bel hb7)
    have HR57 := Lib.hid ((HR5.out.bel hb6).bel hb7)
    have hbw7 := hbw6.trans hb7
    clear hown7 hrd7 hrun2 hrun3
    go_wp2_with fail
    refine (runes_is A4 _ m m cap4 cap7 (refL c) (refL c) _ _ true w7 HR47.out HR7.out HM.out HM.out (by omega) (by simp)).mono ?_
    rintro e w8 ⟨rfl, q, rfl⟩
    have hbw8 : Bel w (w7.drewN q) := hbw7.drewN q
    have hr8 : Rd (w7.drewN q) w5.heap.size .i32 A5 [c] := HR57.out
    have H8 := Lib.hid hr8
    clear hr8 HR57
    generalize w7.drewN q = W8 at hbw8 H8 ⊢
    go_wp2_with fail
    refine (runes_is A5 _ 1 1 cap5 1 [c] [c] _ _ true _ (H8.out.alloc _) (rd_lit (l := [c]) rfl) rfl rfl (by omega) (by simp)).mono ?_
    rintro e w9 ⟨rfl, q2, rfl⟩
    go_wp2
    go_ret
    exact ⟨rfl, (hbw8.alloc _).drewN q2⟩
  · have hs' : scB c = false := by simpa using hs
    obtain rfl : m = 0 := by rw [← HM.out, ref_no hs']; rfl
    go_enter Tryd.func6, Tryd.ntmps6
    go_wp2_with fail
    refine (ref_is c 0 w HM.out).mono ?_
    rintro e w1 ⟨A1, cap1, rfl, hcap1, hown1, hrd1, hnil1, hb1⟩
    clear hown1 hrd1 hnil1
    go_wp2_with fail
    refine (answers_any w1 (HT.out.bel hb1)).mono ?_
    rintro e w2 ⟨rfl, hb2⟩
    go_wp2
    go_ret
    exact ⟨rfl, hb1.trans hb2⟩
end Go.Proofs.YtfggeofknmdmfaaDoor.U
