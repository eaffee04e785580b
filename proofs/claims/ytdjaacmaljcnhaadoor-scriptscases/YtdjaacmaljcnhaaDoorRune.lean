/- What scripts.list and scripts.Rune answer of the six sets and of any number: the character that the chapter's list has for it, or none. Tables as they are laid. -/
import Derived.Test.YtdjaacmaljcnhaaDoorAnsel
namespace Go.Proofs.YtdjaacmaljcnhaaDoor.U
open Go.RowKit Go.Shelf
set_option linter.unusedVariables false
attribute [local go_sem] Oper.semAt_some

theorem str_data (S : ByteArray) : S = ⟨S.data.toList.toArray⟩ := by simp
theorem goodS {s : Nat} (hs : s < 6) : ∃ (rs : List Ln) (T : List UInt8), strAt Tryd.f17 (s + 1) = ⟨T.toArray⟩ ∧ T.length < 4000 ∧ Good ⟨T.toArray⟩ (tabS s) rs := by
  obtain rfl | rfl | rfl | rfl | rfl | rfl : s = 0 ∨ s = 1 ∨ s = 2 ∨ s = 3 ∨ s = 4 ∨ s = 5 := by omega
  · refine ⟨recs3, txt3, by kernel_rfl, of_decide_eq_true (by kernel_rfl), ?_⟩
    have h := good3
    rwa [show S3 = ⟨txt3.toArray⟩ by kernel_rfl] at h
  · refine ⟨recs4, txt4, by kernel_rfl, of_decide_eq_true (by kernel_rfl), ?_⟩
    have h := good4
    rwa [show S4 = ⟨txt4.toArray⟩ by kernel_rfl] at h
  · refine ⟨recs5, txt5, by kernel_rfl, of_decide_eq_true (by kernel_rfl), ?_⟩
    have h := good5
    rwa [show S5 = ⟨txt5.toArray⟩ by kernel_rfl] at h
  · refine ⟨recs6, txt6, by kernel_rfl, of_decide_eq_true (by kernel_rfl), ?_⟩
    have h := good6
    rwa [show S6 = ⟨txt6.toArray⟩ by kernel_rfl] at h
  · refine ⟨recs7, txt7, by kernel_rfl, of_decide_eq_true (by kernel_rfl), ?_⟩
    have h := good7
    rwa [show S7 = ⟨txt7.toArray⟩ by kernel_rfl] at h
  · refine ⟨recs8, txt8, by kernel_rfl, of_decide_eq_true (by kernel_rfl), ?_⟩
    have h := good8
    rwa [show S8 = ⟨txt8.toArray⟩ by kernel_rfl] at h
set_option maxRecDepth 100000 in
set_option maxHeartbeats 1000000 in
theorem list_is (s : Nat) (hs : s < 6) (w : World) : Calls Tryd.prog 17 #[.int .i64 (3 + (s : Int))] w fun e w' => e = .returned (.string (strAt Tryd.f17 (s + 1))) ∧ w' = w := by
  refine (callsIn_wide (n := 4)).1 ?_
  refine callsIn_of_wp Tryd.func17 bodyL trivial ?_ rfl
  generalize posAt Tryd.f17 = p
  generalize strAt Tryd.f17 = Sx
  unfold codeL
  simp only [Tryd.ntmps17, List.size_toArray, List.length_cons, List.length_nil, Nat.reduceAdd, Nat.reduceSub, Array.replicate_succ, Array.replicate_zero, List.push_toArray, List.append_toArray, List.nil_append, List.cons_append]
  obtain ⟨v, hv⟩ : ∃ v : Int, (3 : Int) + (s : Int) = v := ⟨_, rfl⟩
  rw [hv]
  have hc : (s = 0 ∧ v = 3) ∨ (s = 1 ∧ v = 4) ∨ (s = 2 ∧ v = 5) ∨ (s = 3 ∧ v = 6) ∨ (s = 4 ∧ v = 7) ∨ (s = 5 ∧ v = 8) := by omega
  clear hv hs
  obtain ⟨rfl, rfl⟩ | ⟨rfl, rfl⟩ | ⟨rfl, rfl⟩ | ⟨rfl, rfl⟩ | ⟨rfl, rfl⟩ | ⟨rfl, rfl⟩ := hc
  all_goals gi_wp2
  all_goals go_ret
  all_goals exact ⟨rfl, rfl⟩

def RunS (n : Int) (w w' : World) : Prop := w'.cell? ⟨w.heap.size, 0, none⟩ = some (.int .i64 n) ∧ Inv n w.heap.size w [] w' ∧ w.heap.size + 3 ≤ w'.heap.size
theorem RunS.bel {n : Int} {w W W' : World} (h : RunS n w W) (hb : Bel W W') : RunS n w W' := by
  have hi : Inv n w.heap.size w [] W' := ⟨h.2.1.1, boxed_bel h.2.1.2.1 hb, boxed_bel h.2.1.2.2.1 hb, boxed_bel h.2.1.2.2.2.1 hb, h.2.1.2.2.2.2.trans hb⟩
  exact ⟨hi.2.1.cell, hi, Nat.le_trans h.2.2 (Below.size hb)⟩
set_option maxRecDepth 100000 in
set_option maxHeartbeats 2000000 in
theorem rune_is (s : Nat) (hs : s < 6) (n : Int) (hn63 : n ≤ 9223372036854775807) (w : World) (hT : Tz w) : Calls Tryd.prog 12 #[.int .i64 (3 + (s : Int)), .int .i64 n] w fun e w' => e = .returned (.tuple #[.int .i32 (look (tabS s) n).1, .bool (look (tabS s) n).2]) ∧ Bel w w' := by
  obtain ⟨rs, T, hST, hlen, hG⟩ := goodS hs
  have HLi := Lib.hid (fun w => list_is s hs w)
  rw [hST] at HLi
  have HT := Lib.hid hT
  have HL := Lib.hid (fun w h => line_is T (tabS s) rs hG hlen n hn63 w h)
  have hx := lineOf_ok hG.ok n
  have htl := hG.tells n
  rw [← htl]
  clear hs hST hlen hG htl hT hn63
  generalize (⟨T.toArray⟩ : ByteArray) = S at HL HLi
  generalize lineOf rs n = x at HL hx ⊢
  generalize (3 : Int) + (s : Int) = sv at HLi ⊢
  refine (callsIn_wide (n := 6)).1 ?_
  refine callsIn_of_wp_marks Tryd.func12 rfl trivial ?_ rfl
  simp only [Tryd.ntmps12, List.size_toArray, List.length_cons, List.length_nil, Nat.reduceAdd, Nat.reduceSub, Array.replicate_succ, Array.replicate_zero, List.push_toArray, List.append_toArray, List.nil_append, List.cons_append]
  have HX := Lib.hid hx
  clear hx
  gi_wp2_with fail
  have b1 : Boxed (((w.alloc (.cells #[.int .i64 n] 3)).alloc (.cells #[.int .i32 0] 21)).alloc (.cells #[.bool false] 4)) w.heap.size 3 (.int .i64 n) := ((Boxed.new w 3 _).alloc _).alloc _
  have b2 : Boxed (((w.alloc (.cells #[.int .i64 n] 3)).alloc (.cells #[.int .i32 0] 21)).alloc (.cells #[.bool false] 4)) (w.heap.size + 1) 21 (.int .i32 0) := by
    have h := (Boxed.new (w.alloc (.cells #[.int .i64 n] 3)) 21 (.int .i32 0)).alloc (.cells #[.bool false] 4)
    rwa [World.size_alloc] at h
  have b3 : Boxed (((w.alloc (.cells #[.int .i64 n] 3)).alloc (.cells #[.int .i32 0] 21)).alloc (.cells #[.bool false] 4)) (w.heap.size + 2) 4 (.bool false) := by
    have h := Boxed.new ((w.alloc (.cells #[.int .i64 n] 3)).alloc (.cells #[.int .i32 0] 21)) 4 (.bool false)
    rwa [World.size_alloc, World.size_alloc] at h
  have hB : Bel w (((w.alloc (.cells #[.int .i64 n] 3)).alloc (.cells #[.int .i32 0] 21)).alloc (.cells #[.bool false] 4)) := (((Bel.refl w).alloc _).alloc _).alloc _
  have hz : (((w.alloc (.cells #[.int .i64 n] 3)).alloc (.cells #[.int .i32 0] 21)).alloc (.cells #[.bool false] 4)).heap.size = w.heap.size + 3 := by simp
  generalize (((w.alloc (.cells #[.int .i64 n] 3)).alloc (.cells #[.int .i32 0] 21)).alloc (.cells #[.bool false] 4)) = W0 at b1 b2 b3 hB hz ⊢
  have HS0 : Hid (RunS n w W0) := Lib.hid ⟨b1.cell, ⟨by simp, b1, b2, b3, hB⟩, by omega⟩
  have HLi2 : Hid (∀ w' : World, (w'.cell? ⟨w.heap.size, 0, none⟩ = some (.int .i64 n) ∧ Inv n w.heap.size w [] w' ∧ w.heap.size + 3 ≤ w'.heap.size) → Calls Tryd.prog 17 #[.int .i64 sv] w' fun e w'' => e = .returned (.string S) ∧ (w''.cell? ⟨w.heap.size, 0, none⟩ = some (.int .i64 n) ∧ Inv n w.heap.size w [] w'' ∧ w.heap.size + 3 ≤ w''.heap.size)) :=
    Lib.hid fun w' hc => (HLi.out w').mono fun e w'' he => ⟨he.1, by rw [he.2]; exact hc⟩
  have HL2 : Hid (∀ w' : World, (w'.cell? ⟨w.heap.size, 0, none⟩ = some (.int .i64 n) ∧ Inv n w.heap.size w [] w' ∧ w.heap.size + 3 ≤ w'.heap.size) → Calls Tryd.prog 14 #[.string S, .int .i64 n] w' fun e w'' => e = .returned (.string ⟨x.l.toArray⟩) ∧ (w''.cell? ⟨w.heap.size, 0, none⟩ = some (.int .i64 n) ∧ Inv n w.heap.size w [] w'' ∧ w.heap.size + 3 ≤ w''.heap.size)) :=
    Lib.hid fun w' hc => (HL.out w' (HT.out.bel hc.2.1.2.2.2.2)).mono fun e w'' he => ⟨he.1, RunS.bel hc he.2⟩
  clear b1 b2 b3 hB hz HL HLi
  refine wpIn_wide.2 ?_
  go_region_held3 (fun w' => w'.cell? ⟨w.heap.size, 0, none⟩ = some (.int .i64 n) ∧ Inv n w.heap.size w [] w' ∧ w.heap.size + 3 ≤ w'.heap.size)
    (first | assumption | exact RunS.bel HS0.out ((Bel.refl _).drew) | exact RunS.bel (by assumption) ((Bel.refl _).alloc _))
    (first | (go_at_call 17; refine (HLi2.out _ (by assumption)).mono ?_; rintro e w1 ⟨rfl, hs1⟩) | (go_at_call 14; refine (HL2.out _ (by assumption)).mono ?_; rintro e w2 ⟨rfl, hs2⟩))
  have HI0 := Lib.hid hs2.2.1
  have HZ := Lib.hid hs2.2.2
  clear hs1 hs2
  gi_wp2_with fail
  have eq2 : w.heap.size + 2 = w.heap.size + 1 + 1 := rfl
  refine range_top enc2 (outW x.st x.fs) 0 0 (by decide) (by omega) rfl (enters_of Tryd.func15 (by kernel_rfl) rfl) (fun _ => rfl) (numbers_in x HX.out w2)
    (Inv n w.heap.size w) (Fnd (outW x.st x.fs) n w.heap.size w) (fun pre W h => HT.out.bel h.2.2.2.2)
    (fun pre W W' h hc => h.tch hc (Nat.le_refl _) HZ.out (Nat.le_refl _)) (fun W W' h hc => h.tch hc (Nat.le_refl _) HZ.out (Nat.le_refl _)) HI0.out
    (fun y => { tmps := #[.int .i64 sv, .int .i64 n, undef, .pointer (some ⟨w.heap.size, 0, none⟩), .pointer (some ⟨w.heap.size + 1, 0, none⟩), .pointer (some ⟨w.heap.size + 1 + 1, 0, none⟩), .int .i64 y.1, .int .i32 y.2, .int .i64 sv, .string S, .int .i64 n, .string ⟨x.l.toArray⟩,
      .func (.func 15) #[.string ⟨x.l.toArray⟩] #[], .int .i64 y.1, .int .i32 y.2, undef, undef, undef, undef], defers := [] }) ?assign ?body ?done ?stop
  case assign =>
    intro l y W K hK
    dsimp only [enc2]
    gi_wp2
    exact hK
  case body =>
    rintro l pre y W hl - ⟨hp, c1, c2, c3, hB⟩ hx
    rw [eq2] at c3
    have k1 := c1.cell
    have k2 := c2.cell
    have k3 := c3.cell
    have f2 := c2.frozen
    have f3 := c3.frozen
    have HC2 := Lib.hid c2
    have HC3 := Lib.hid c3
    have HC1 := Lib.hid c1
    have HB := Lib.hid hB
    have HXx := Lib.hid hx
    have HP := Lib.hid hp
    clear c1 c2 c3 hB hx hp hl
    gi_wp2
    · rename_i he
      have he' : y.1 = n := by simpa using he
      obtain ⟨rest, hr⟩ := HXx.out
      refine ⟨(Kep.cell _ ⟨w.heap.size + 1, 0, none⟩ _ (by show w.heap.size + 1 < w2.heap.size; have := HZ.out; omega) (by omega)).trans (Kep.cell _ ⟨w.heap.size + 1 + 1, 0, none⟩ _ (by show w.heap.size + 1 + 1 < w2.heap.size; have := HZ.out; omega) (by omega)), y.2, ?_, ?_, ?_, ?_⟩
      · exact look_hit (rest := rest) (by rw [hr, ← he']) HP.out
      · exact (HC2.out.set _).other (by omega) _
      · exact (HC3.out.other (by omega) _).set _
      · exact (Below.setCell HB.out (p := ⟨w.heap.size + 1, 0, none⟩) (by simp) _).setCell (p := ⟨w.heap.size + 1 + 1, 0, none⟩) (by simp; omega) _
    · rename_i he
      refine ⟨Kep.refl _ _ _ _, fun p hp => ?_, HC1.out, HC2.out, HC3.out, HB.out⟩
      rcases List.mem_append.1 hp with hp | hp
      · exact HP.out p hp
      · simp at hp
        subst hp
        simpa using he
  case done =>
    rintro W ⟨hp, c1, c2, c3, hB⟩ hK
    rw [eq2] at c3
    have k2 := c2.cell
    have k3 := c3.cell
    have f2 := c2.frozen
    have f3 := c3.frozen
    gi_wp2
    have hK' := ((KeepsOthers.setCell W ⟨w.heap.size + 1, 0, none⟩ (.int .i32 0)).trans (KeepsOthers.setCell _ ⟨w.heap.size + 1 + 1, 0, none⟩ (.bool false))).same _ _ hK rfl
    have d2 := boxed_put ((c2.set (.int .i32 0)).other (B' := w.heap.size + 1 + 1) (by omega) (.bool false)) (l := w2.heap.size) (by have := HZ.out; omega) (.deferred none)
    have d3 := boxed_put ((c3.other (B' := w.heap.size + 1) (by omega) (.int .i32 0)).set (.bool false)) (l := w2.heap.size) (by have := HZ.out; omega) (.deferred none)
    have e2 := d2.cell
    have e3 := d3.cell
    refine ⟨by simp, .inl ⟨_, _, rfl, run_takeDeferred hK', ?_⟩⟩
    rw [look_miss hp]
    refine ⟨.tuple #[.int .i32 0, .bool false], ?_, rfl, bel_put ((Below.setCell hB (p := ⟨w.heap.size + 1, 0, none⟩) (by simp) _).setCell (p := ⟨w.heap.size + 1 + 1, 0, none⟩) (by simp; omega) _) (by have := HZ.out; omega) _⟩
    simp [results, Tryd.f12, go_sem, e2, e3]
  case stop =>
    rintro W ⟨r, hr, c2, c3, hB⟩ hK
    rw [eq2] at c3
    have d2 := boxed_put c2 (l := w2.heap.size) (by have := HZ.out; omega) (.deferred none)
    have d3 := boxed_put c3 (l := w2.heap.size) (by have := HZ.out; omega) (.deferred none)
    have e2 := d2.cell
    have e3 := d3.cell
    gi_wp2
    refine ⟨by simp, .inl ⟨_, _, rfl, run_takeDeferred hK, ?_⟩⟩
    refine ⟨.tuple #[.int .i32 r, .bool true], ?_, rfl, bel_put hB (by have := HZ.out; omega) _⟩
    simp [results, Tryd.f12, go_sem, e2, e3]
end Go.Proofs.YtdjaacmaljcnhaaDoor.U
