/- What latin.Ansel answers of any number: the character that the chapter's list has for it, or none. Tables as they are laid. What scripts.list and scripts.Rune answer of the six sets and of any number: the character that the chapter's list has for it, or none. Tables as they are laid. What eacc.runs answers: ten runs, each with its first code, its text and whether it is one of alternates. The texts are letters, drawn out of the translation; the body is the translation's own, the texts and the places in the Go text struck out. No condition. What eacc.runs and next answer: the ten runs; the number behind another one. No condition. What eacc.runFor answers: of the ten runs the last one that does not begin behind a number. No condition. What a run's 'codes' tells its caller: code by code, each with its character, in order, until it is told to stop. No condition. A range over a run's 'codes': by what its body does in a round; the body may write what is its own. No condition. What eacc.Rune answers of any number: the character that the chapter's runs have for it, or none. No condition. -/
import Derived.Test.YtphnahabonfmmaaGreatDoorM3
import Derived.Test.YtphnahabonfmmaaGreatDoorChecked
import Derived.Test.YtphnahabonfmmaaGreatDoorM1
import Derived.Deep.WholeRow
import Derived.Laws.CopyOwn
import Derived.Lib.Builder
import Derived.RangeFuncNested
import Derived.RangeFuncBound
import Derived.RangeFuncCalls
import Derived.RangeFuncLeaves
import Derived.Shelf.Abstract
import Derived.Shelf.RegionOpen
import Derived.OwnWalkIn
import Derived.TacticsInMore
import Derived.LoopNIn
import Derived.LoopIn
import Derived.Lib.OthersKept
namespace Go.Proofs.YtphnahabonfmmaaGreatDoor.U
open Go.RowKit Go.Shelf
set_option linter.unusedVariables false
attribute [local go_sem] Oper.semAt_some

/-- Between two rounds. -/
def Inv (n : Int) (B : Nat) (w : World) (pre : List (Int × Int)) (W : World) : Prop :=
  (∀ p ∈ pre, p.1 ≠ n) ∧ Boxed W B 3 (.int .i64 n) ∧ Boxed W (B + 1) 21 (.int .i32 0) ∧ Boxed W (B + 2) 4 (.bool false) ∧ Bel w W
/-- A round has found it. -/
def Fnd (tb : List (Int × Int)) (n : Int) (B : Nat) (w : World) (W : World) : Prop :=
  ∃ r, look tb n = (r, true) ∧ Boxed W (B + 1) 21 (.int .i32 r) ∧ Boxed W (B + 2) 4 (.bool true) ∧ Bel w W
theorem Inv.tch {n : Int} {B b0 b1 E : Nat} {w W W' : World} {pre : List (Int × Int)} (h : Inv n B w pre W) (hc : Tch b0 b1 E W W') (h1 : b1 ≤ b0) (h2 : B + 3 ≤ E) (h3 : w.heap.size ≤ B) : Inv n B w pre W' :=
  ⟨h.1, hc.boxed h.2.1 (by omega) (by omega), hc.boxed h.2.2.1 (by omega) (by omega), hc.boxed h.2.2.2.1 (by omega) (by omega), Below.trans h.2.2.2.2 ⟨hc.os, hc.tape, hc.output, hc.size, fun j hj => hc.block j (by omega) (by omega)⟩⟩
theorem Fnd.tch {tb : List (Int × Int)} {n : Int} {B b0 b1 E : Nat} {w W W' : World} (h : Fnd tb n B w W) (hc : Tch b0 b1 E W W') (h1 : b1 ≤ b0) (h2 : B + 3 ≤ E) (h3 : w.heap.size ≤ B) : Fnd tb n B w W' := by
  obtain ⟨r, h0, k1, k2, k3⟩ := h
  exact ⟨r, h0, hc.boxed k1 (by omega) (by omega), hc.boxed k2 (by omega) (by omega), Below.trans k3 ⟨hc.os, hc.tape, hc.output, hc.size, fun j hj => hc.block j (by omega) (by omega)⟩⟩

set_option maxRecDepth 100000 in
set_option maxHeartbeats 2000000 in
theorem ansel_is (n : Int) (hn63 : n ≤ 9223372036854775807) (w : World) (hT : Tz w) : Calls Tryz.prog 54 #[.int .i64 n] w fun e w' => e = .returned (.tuple #[.int .i32 (look tabA n).1, .bool (look tabA n).2]) ∧ Bel w w' := by
  have hG : Good ⟨txtA.toArray⟩ tabA recsA := by
    have h := goodA
    rwa [show SA = ⟨txtA.toArray⟩ by kernel_rfl] at h
  have HT := Lib.hid hT
  have HL := Lib.hid (fun w h => line_is txtA tabA recsA hG (of_decide_eq_true (by kernel_rfl)) n hn63 w h)
  have hx := lineOf_ok hG.ok n
  have htl := hG.tells n
  rw [← htl]
  refine (callsIn_wide (n := 6)).1 ?_
  refine callsIn_of_wp_marks Tryz.func54 bodyA trivial ?_ rfl
  rw [show ∀ p, codeA (strAt Tryz.f54) p = codeA (fun _ => ⟨txtA.toArray⟩) p from fun p => by kernel_rfl]
  generalize posAt Tryz.f54 = p
  generalize (⟨txtA.toArray⟩ : ByteArray) = S at HL ⊢
  generalize lineOf recsA n = x at HL hx ⊢
  unfold codeA
  simp only [Tryz.ntmps54, List.size_toArray, List.length_cons, List.length_nil, Nat.reduceAdd, Nat.reduceSub, Array.replicate_succ, Array.replicate_zero, List.push_toArray, List.append_toArray, List.nil_append, List.cons_append]
  clear hG htl hT hn63
  have HX := Lib.hid hx
  clear hx
  gi_wp2_with fail
  have b1 : Boxed (((w.alloc (.cells #[.int .i64 n] 3)).alloc (.cells #[.int .i32 0] 21)).alloc (.cells #[.bool false] 4)) w.heap.size 3 (.int .i64 n) := ((Boxed.new w 3 _).alloc _).alloc _
  have b2 : Boxed (((w.alloc (.cells #[.int .i64 n] 3)).alloc (.cells #[.int .i32 0] 21)).alloc (.cells #[.bool false] 4)) (w.heap.size + 1) 21 (.int .i32 0) := by
    have h := (Boxed.new (w.alloc (.cells #[.int .i64 n] 3)) 21 (.int .i32 0)).alloc (.cells #[.bool false] 4)
    rwa [World.size_alloc] at h
  have b3 : Boxed (((w.alloc (.cells #[.int .i64 n] 3)).alloc (.cells #[.int .i32 0] 21)).alloc (.cells #[.bool false] 4)) (w.heap.size + 2) 4 (.bool false) := by
    have h := Boxed.new ((w.alloc (.cells #[.int .i64 n] 3)).alloc (.cells #[.int .i32 0] 21)) 4 (.bool false)
    rwa [World.size_alloc, World.size_alloc] at h
  have hB : Bel w (((w.alloc (.cells #[.int .i64 n] 3)).alloc (.cells #[.int .i32 0] 21)).alloc (.cells #[.bool false] 4)) := (((Bel.refl w).alloc _).alloc _).alloc _
  have hz : (((w.alloc (.cells #[.int .i64 n] 3)).alloc (.cells #[.int .i32 0] 21)).alloc (.cells #[.bool false] 4)).heap.size = w.heap.size + 3 := by simp
  generalize (((w.alloc (.cells #[.int .i64 n] 3)).alloc (.cells #[.int .i32 0] 21)).alloc (.cells #[.bool false] 4)) = W0 at b1 b2 b3 hB hz ⊢
  refine ⟨trivial, ?_⟩
  gi_at_call 86
  refine (callsIn_wide.2 (HL.out _ (HT.out.bel hB))).mono ?_
  rintro e Wz ⟨rfl, hb1⟩
  have HI0 : Hid (Inv n w.heap.size w [] Wz) := Lib.hid ⟨by simp, boxed_bel b1 hb1, boxed_bel b2 hb1, boxed_bel b3 hb1, hB.trans hb1⟩
  have HZ := Lib.hid (show w.heap.size + 3 ≤ Wz.heap.size by have := Below.size hb1; omega)
  clear b1 b2 b3 hB hz hb1
  gi_wp2_with fail
  have eq2 : w.heap.size + 2 = w.heap.size + 1 + 1 := rfl
  refine range_top enc2 (outW x.st x.fs) 0 0 (by decide) (by omega) rfl (enters_of Tryz.func87 (by kernel_rfl) rfl) (fun _ => rfl) (numbers_in x HX.out Wz)
    (Inv n w.heap.size w) (Fnd (outW x.st x.fs) n w.heap.size w) (fun pre W h => HT.out.bel h.2.2.2.2)
    (fun pre W W' h hc => h.tch hc (Nat.le_refl _) HZ.out (Nat.le_refl _)) (fun W W' h hc => h.tch hc (Nat.le_refl _) HZ.out (Nat.le_refl _)) HI0.out
    (fun y => { tmps := #[.int .i64 n, .pointer (some ⟨w.heap.size, 0, none⟩), .pointer (some ⟨w.heap.size + 1, 0, none⟩), .pointer (some ⟨w.heap.size + 1 + 1, 0, none⟩), .int .i64 y.1, .int .i32 y.2, .int .i64 n, .string ⟨x.l.toArray⟩,
      .func (.func 87) #[.string ⟨x.l.toArray⟩] #[], .int .i64 y.1, .int .i32 y.2, undef, undef, undef, undef], defers := [] }) ?assign ?body ?done ?stop
  case assign =>
    intro l y W K hK
    dsimp only [enc2]
    gi_wp2
    exact hK
  case body =>
    rintro l pre y W hl - ⟨hp, c1, c2, c3, hB⟩ hx
    rw [eq2] at c3
    have k1 := c1.cell
    have k2 := c2.cell
    have k3 := c3.cell
    have f2 := c2.frozen
    have f3 := c3.frozen
    have HC2 := Lib.hid c2
    have HC3 := Lib.hid c3
    have HC1 := Lib.hid c1
    have HB := Lib.hid hB
    have HXx := Lib.hid hx
    have HP := Lib.hid hp
    clear c1 c2 c3 hB hx hp hl
    gi_wp2
    · rename_i he
      have he' : y.1 = n := by simpa using he
      obtain ⟨rest, hr⟩ := HXx.out
      refine ⟨(Kep.cell _ ⟨w.heap.size + 1, 0, none⟩ _ (by show w.heap.size + 1 < Wz.heap.size; have := HZ.out; omega) (by omega)).trans (Kep.cell _ ⟨w.heap.size + 1 + 1, 0, none⟩ _ (by show w.heap.size + 1 + 1 < Wz.heap.size; have := HZ.out; omega) (by omega)), y.2, ?_, ?_, ?_, ?_⟩
      · exact look_hit (rest := rest) (by rw [hr, ← he']) HP.out
      · exact (HC2.out.set _).other (by omega) _
      · exact (HC3.out.other (by omega) _).set _
      · exact (Below.setCell HB.out (p := ⟨w.heap.size + 1, 0, none⟩) (by simp) _).setCell (p := ⟨w.heap.size + 1 + 1, 0, none⟩) (by simp; omega) _
    · rename_i he
      refine ⟨Kep.refl _ _ _ _, fun p hp => ?_, HC1.out, HC2.out, HC3.out, HB.out⟩
      rcases List.mem_append.1 hp with hp | hp
      · exact HP.out p hp
      · simp at hp
        subst hp
        simpa using he
  case done =>
    rintro W ⟨hp, c1, c2, c3, hB⟩ hK
    rw [eq2] at c3
    have k2 := c2.cell
    have k3 := c3.cell
    have f2 := c2.frozen
    have f3 := c3.frozen
    gi_wp2
    have hK' := ((KeepsOthers.setCell W ⟨w.heap.size + 1, 0, none⟩ (.int .i32 0)).trans (KeepsOthers.setCell _ ⟨w.heap.size + 1 + 1, 0, none⟩ (.bool false))).same _ _ hK rfl
    have d2 := boxed_put ((c2.set (.int .i32 0)).other (B' := w.heap.size + 1 + 1) (by omega) (.bool false)) (l := Wz.heap.size) (by have := HZ.out; omega) (.deferred none)
    have d3 := boxed_put ((c3.other (B' := w.heap.size + 1) (by omega) (.int .i32 0)).set (.bool false)) (l := Wz.heap.size) (by have := HZ.out; omega) (.deferred none)
    have e2 := d2.cell
    have e3 := d3.cell
    refine ⟨by simp, .inl ⟨_, _, rfl, run_takeDeferred hK', ?_⟩⟩
    rw [look_miss hp]
    refine ⟨.tuple #[.int .i32 0, .bool false], ?_, rfl, bel_put ((Below.setCell hB (p := ⟨w.heap.size + 1, 0, none⟩) (by simp) _).setCell (p := ⟨w.heap.size + 1 + 1, 0, none⟩) (by simp; omega) _) (by have := HZ.out; omega) _⟩
    simp [results, Tryz.f54, go_sem, e2, e3]
  case stop =>
    rintro W ⟨r, hr, c2, c3, hB⟩ hK
    rw [eq2] at c3
    have d2 := boxed_put c2 (l := Wz.heap.size) (by have := HZ.out; omega) (.deferred none)
    have d3 := boxed_put c3 (l := Wz.heap.size) (by have := HZ.out; omega) (.deferred none)
    have e2 := d2.cell
    have e3 := d3.cell
    gi_wp2
    refine ⟨by simp, .inl ⟨_, _, rfl, run_takeDeferred hK, ?_⟩⟩
    refine ⟨.tuple #[.int .i32 r, .bool true], ?_, rfl, bel_put hB (by have := HZ.out; omega) _⟩
    simp [results, Tryz.f54, go_sem, e2, e3]
end Go.Proofs.YtphnahabonfmmaaGreatDoor.U
namespace Go.Proofs.YtphnahabonfmmaaGreatDoor.U
open Go.RowKit Go.Shelf
set_option linter.unusedVariables false
attribute [local go_sem] Oper.semAt_some

theorem str_data (S : ByteArray) : S = ⟨S.data.toList.toArray⟩ := by simp
theorem goodS {s : Nat} (hs : s < 6) : ∃ (rs : List Ln) (T : List UInt8), strAt Tryz.f92 (s + 1) = ⟨T.toArray⟩ ∧ T.length < 4000 ∧ Good ⟨T.toArray⟩ (tabS s) rs := by
  obtain rfl | rfl | rfl | rfl | rfl | rfl : s = 0 ∨ s = 1 ∨ s = 2 ∨ s = 3 ∨ s = 4 ∨ s = 5 := by omega
  · refine ⟨recs3, txt3, by kernel_rfl, of_decide_eq_true (by kernel_rfl), ?_⟩
    have h := good3
    rwa [show S3 = ⟨txt3.toArray⟩ by kernel_rfl] at h
  · refine ⟨recs4, txt4, by kernel_rfl, of_decide_eq_true (by kernel_rfl), ?_⟩
    have h := good4
    rwa [show S4 = ⟨txt4.toArray⟩ by kernel_rfl] at h
  · refine ⟨recs5, txt5, by kernel_rfl, of_decide_eq_true (by kernel_rfl), ?_⟩
    have h := good5
    rwa [show S5 = ⟨txt5.toArray⟩ by kernel_rfl] at h
  · refine ⟨recs6, txt6, by kernel_rfl, of_decide_eq_true (by kernel_rfl), ?_⟩
    have h := good6
    rwa [show S6 = ⟨txt6.toArray⟩ by kernel_rfl] at h
  · refine ⟨recs7, txt7, by kernel_rfl, of_decide_eq_true (by kernel_rfl), ?_⟩
    have h := good7
    rwa [show S7 = ⟨txt7.toArray⟩ by kernel_rfl] at h
  · refine ⟨recs8, txt8, by kernel_rfl, of_decide_eq_true (by kernel_rfl), ?_⟩
    have h := good8
    rwa [show S8 = ⟨txt8.toArray⟩ by kernel_rfl] at h
set_option maxRecDepth 100000 in
set_option maxHeartbeats 1000000 in
theorem list_is (s : Nat) (hs : s < 6) (w : World) : Calls Tryz.prog 92 #[.int .i64 (3 + (s : Int))] w fun e w' => e = .returned (.string (strAt Tryz.f92 (s + 1))) ∧ w' = w := by
  refine (callsIn_wide (n := 4)).1 ?_
  refine callsIn_of_wp Tryz.func92 bodyL trivial ?_ rfl
  generalize posAt Tryz.f92 = p
  generalize strAt Tryz.f92 = Sx
  unfold codeL
  simp only [Tryz.ntmps92, List.size_toArray, List.length_cons, List.length_nil, Nat.reduceAdd, Nat.reduceSub, Array.replicate_succ, Array.replicate_zero, List.push_toArray, List.append_toArray, List.nil_append, List.cons_append]
  obtain ⟨v, hv⟩ : ∃ v : Int, (3 : Int) + (s : Int) = v := ⟨_, rfl⟩
  rw [hv]
  have hc : (s = 0 ∧ v = 3) ∨ (s = 1 ∧ v = 4) ∨ (s = 2 ∧ v = 5) ∨ (s = 3 ∧ v = 6) ∨ (s = 4 ∧ v = 7) ∨ (s = 5 ∧ v = 8) := by omega
  clear hv hs
  obtain ⟨rfl, rfl⟩ | ⟨rfl, rfl⟩ | ⟨rfl, rfl⟩ | ⟨rfl, rfl⟩ | ⟨rfl, rfl⟩ | ⟨rfl, rfl⟩ := hc
  all_goals gi_wp2
  all_goals go_ret
  all_goals exact ⟨rfl, rfl⟩

def RunS (n : Int) (w w' : World) : Prop := w'.cell? ⟨w.heap.size, 0, none⟩ = some (.int .i64 n) ∧ Inv n w.heap.size w [] w' ∧ w.heap.size + 3 ≤ w'.heap.size
theorem RunS.bel {n : Int} {w W W' : World} (h : RunS n w W) (hb : Bel W W') : RunS n w W' := by
  have hi : Inv n w.heap.size w [] W' := ⟨h.2.1.1, boxed_bel h.2.1.2.1 hb, boxed_bel h.2.1.2.2.1 hb, boxed_bel h.2.1.2.2.2.1 hb, h.2.1.2.2.2.2.trans hb⟩
  exact ⟨hi.2.1.cell, hi, Nat.le_trans h.2.2 (Below.size hb)⟩
set_option maxRecDepth 100000 in
set_option maxHeartbeats 2000000 in
theorem rune_is (s : Nat) (hs : s < 6) (n : Int) (hn63 : n ≤ 9223372036854775807) (w : World) (hT : Tz w) : Calls Tryz.prog 57 #[.int .i64 (3 + (s : Int)), .int .i64 n] w fun e w' => e = .returned (.tuple #[.int .i32 (look (tabS s) n).1, .bool (look (tabS s) n).2]) ∧ Bel w w' := by
  obtain ⟨rs, T, hST, hlen, hG⟩ := goodS hs
  have HLi := Lib.hid (fun w => list_is s hs w)
  rw [hST] at HLi
  have HT := Lib.hid hT
  have HL := Lib.hid (fun w h => line_is T (tabS s) rs hG hlen n hn63 w h)
  have hx := lineOf_ok hG.ok n
  have htl := hG.tells n
  rw [← htl]
  clear hs hST hlen hG htl hT hn63
  generalize (⟨T.toArray⟩ : ByteArray) = S at HL HLi
  generalize lineOf rs n = x at HL hx ⊢
  generalize (3 : Int) + (s : Int) = sv at HLi ⊢
  refine (callsIn_wide (n := 6)).1 ?_
  refine callsIn_of_wp_marks Tryz.func57 rfl trivial ?_ rfl
  simp only [Tryz.ntmps57, List.size_toArray, List.length_cons, List.length_nil, Nat.reduceAdd, Nat.reduceSub, Array.replicate_succ, Array.replicate_zero, List.push_toArray, List.append_toArray, List.nil_append, List.cons_append]
  have HX := Lib.hid hx
  clear hx
  gi_wp2_with fail
  have b1 : Boxed (((w.alloc (.cells #[.int .i64 n] 3)).alloc (.cells #[.int .i32 0] 21)).alloc (.cells #[.bool false] 4)) w.heap.size 3 (.int .i64 n) := ((Boxed.new w 3 _).alloc _).alloc _
  have b2 : Boxed (((w.alloc (.cells #[.int .i64 n] 3)).alloc (.cells #[.int .i32 0] 21)).alloc (.cells #[.bool false] 4)) (w.heap.size + 1) 21 (.int .i32 0) := by
    have h := (Boxed.new (w.alloc (.cells #[.int .i64 n] 3)) 21 (.int .i32 0)).alloc (.cells #[.bool false] 4)
    rwa [World.size_alloc] at h
  have b3 : Boxed (((w.alloc (.cells #[.int .i64 n] 3)).alloc (.cells #[.int .i32 0] 21)).alloc (.cells #[.bool false] 4)) (w.heap.size + 2) 4 (.bool false) := by
    have h := Boxed.new ((w.alloc (.cells #[.int .i64 n] 3)).alloc (.cells #[.int .i32 0] 21)) 4 (.bool false)
    rwa [World.size_alloc, World.size_alloc] at h
  have hB : Bel w (((w.alloc (.cells #[.int .i64 n] 3)).alloc (.cells #[.int .i32 0] 21)).alloc (.cells #[.bool false] 4)) := (((Bel.refl w).alloc _).alloc _).alloc _
  have hz : (((w.alloc (.cells #[.int .i64 n] 3)).alloc (.cells #[.int .i32 0] 21)).alloc (.cells #[.bool false] 4)).heap.size = w.heap.size + 3 := by simp
  generalize (((w.alloc (.cells #[.int .i64 n] 3)).alloc (.cells #[.int .i32 0] 21)).alloc (.cells #[.bool false] 4)) = W0 at b1 b2 b3 hB hz ⊢
  have HS0 : Hid (RunS n w W0) := Lib.hid ⟨b1.cell, ⟨by simp, b1, b2, b3, hB⟩, by omega⟩
  have HLi2 : Hid (∀ w' : World, (w'.cell? ⟨w.heap.size, 0, none⟩ = some (.int .i64 n) ∧ Inv n w.heap.size w [] w' ∧ w.heap.size + 3 ≤ w'.heap.size) → Calls Tryz.prog 92 #[.int .i64 sv] w' fun e w'' => e = .returned (.string S) ∧ (w''.cell? ⟨w.heap.size, 0, none⟩ = some (.int .i64 n) ∧ Inv n w.heap.size w [] w'' ∧ w.heap.size + 3 ≤ w''.heap.size)) :=
    Lib.hid fun w' hc => (HLi.out w').mono fun e w'' he => ⟨he.1, by rw [he.2]; exact hc⟩
  have HL2 : Hid (∀ w' : World, (w'.cell? ⟨w.heap.size, 0, none⟩ = some (.int .i64 n) ∧ Inv n w.heap.size w [] w' ∧ w.heap.size + 3 ≤ w'.heap.size) → Calls Tryz.prog 86 #[.string S, .int .i64 n] w' fun e w'' => e = .returned (.string ⟨x.l.toArray⟩) ∧ (w''.cell? ⟨w.heap.size, 0, none⟩ = some (.int .i64 n) ∧ Inv n w.heap.size w [] w'' ∧ w.heap.size + 3 ≤ w''.heap.size)) :=
    Lib.hid fun w' hc => (HL.out w' (HT.out.bel hc.2.1.2.2.2.2)).mono fun e w'' he => ⟨he.1, RunS.bel hc he.2⟩
  clear b1 b2 b3 hB hz HL HLi
  refine wpIn_wide.2 ?_
  go_region_held3 (fun w' => w'.cell? ⟨w.heap.size, 0, none⟩ = some (.int .i64 n) ∧ Inv n w.heap.size w [] w' ∧ w.heap.size + 3 ≤ w'.heap.size)
    (first | assumption | exact RunS.bel HS0.out ((Bel.refl _).drew) | exact RunS.bel (by assumption) ((Bel.refl _).alloc _))
    (first | (go_at_call 92; refine (HLi2.out _ (by assumption)).mono ?_; rintro e w1 ⟨rfl, hs1⟩) | (go_at_call 86; refine (HL2.out _ (by assumption)).mono ?_; rintro e w2 ⟨rfl, hs2⟩))
  have HI0 := Lib.hid hs2.2.1
  have HZ := Lib.hid hs2.2.2
  clear hs1 hs2
  gi_wp2_with fail
  have eq2 : w.heap.size + 2 = w.heap.size + 1 + 1 := rfl
  refine range_top enc2 (outW x.st x.fs) 0 0 (by decide) (by omega) rfl (enters_of Tryz.func87 (by kernel_rfl) rfl) (fun _ => rfl) (numbers_in x HX.out w2)
    (Inv n w.heap.size w) (Fnd (outW x.st x.fs) n w.heap.size w) (fun pre W h => HT.out.bel h.2.2.2.2)
    (fun pre W W' h hc => h.tch hc (Nat.le_refl _) HZ.out (Nat.le_refl _)) (fun W W' h hc => h.tch hc (Nat.le_refl _) HZ.out (Nat.le_refl _)) HI0.out
    (fun y => { tmps := #[.int .i64 sv, .int .i64 n, undef, .pointer (some ⟨w.heap.size, 0, none⟩), .pointer (some ⟨w.heap.size + 1, 0, none⟩), .pointer (some ⟨w.heap.size + 1 + 1, 0, none⟩), .int .i64 y.1, .int .i32 y.2, .int .i64 sv, .string S, .int .i64 n, .string ⟨x.l.toArray⟩,
      .func (.func 87) #[.string ⟨x.l.toArray⟩] #[], .int .i64 y.1, .int .i32 y.2, undef, undef, undef, undef], defers := [] }) ?assign ?body ?done ?stop
  case assign =>
    intro l y W K hK
    dsimp only [enc2]
    gi_wp2
    exact hK
  case body =>
    rintro l pre y W hl - ⟨hp, c1, c2, c3, hB⟩ hx
    rw [eq2] at c3
    have k1 := c1.cell
    have k2 := c2.cell
    have k3 := c3.cell
    have f2 := c2.frozen
    have f3 := c3.frozen
    have HC2 := Lib.hid c2
    have HC3 := Lib.hid c3
    have HC1 := Lib.hid c1
    have HB := Lib.hid hB
    have HXx := Lib.hid hx
    have HP := Lib.hid hp
    clear c1 c2 c3 hB hx hp hl
    gi_wp2
    · rename_i he
      have he' : y.1 = n := by simpa using he
      obtain ⟨rest, hr⟩ := HXx.out
      refine ⟨(Kep.cell _ ⟨w.heap.size + 1, 0, none⟩ _ (by show w.heap.size + 1 < w2.heap.size; have := HZ.out; omega) (by omega)).trans (Kep.cell _ ⟨w.heap.size + 1 + 1, 0, none⟩ _ (by show w.heap.size + 1 + 1 < w2.heap.size; have := HZ.out; omega) (by omega)), y.2, ?_, ?_, ?_, ?_⟩
      · exact look_hit (rest := rest) (by rw [hr, ← he']) HP.out
      · exact (HC2.out.set _).other (by omega) _
      · exact (HC3.out.other (by omega) _).set _
      · exact (Below.setCell HB.out (p := ⟨w.heap.size + 1, 0, none⟩) (by simp) _).setCell (p := ⟨w.heap.size + 1 + 1, 0, none⟩) (by simp; omega) _
    · rename_i he
      refine ⟨Kep.refl _ _ _ _, fun p hp => ?_, HC1.out, HC2.out, HC3.out, HB.out⟩
      rcases List.mem_append.1 hp with hp | hp
      · exact HP.out p hp
      · simp at hp
        subst hp
        simpa using he
  case done =>
    rintro W ⟨hp, c1, c2, c3, hB⟩ hK
    rw [eq2] at c3
    have k2 := c2.cell
    have k3 := c3.cell
    have f2 := c2.frozen
    have f3 := c3.frozen
    gi_wp2
    have hK' := ((KeepsOthers.setCell W ⟨w.heap.size + 1, 0, none⟩ (.int .i32 0)).trans (KeepsOthers.setCell _ ⟨w.heap.size + 1 + 1, 0, none⟩ (.bool false))).same _ _ hK rfl
    have d2 := boxed_put ((c2.set (.int .i32 0)).other (B' := w.heap.size + 1 + 1) (by omega) (.bool false)) (l := w2.heap.size) (by have := HZ.out; omega) (.deferred none)
    have d3 := boxed_put ((c3.other (B' := w.heap.size + 1) (by omega) (.int .i32 0)).set (.bool false)) (l := w2.heap.size) (by have := HZ.out; omega) (.deferred none)
    have e2 := d2.cell
    have e3 := d3.cell
    refine ⟨by simp, .inl ⟨_, _, rfl, run_takeDeferred hK', ?_⟩⟩
    rw [look_miss hp]
    refine ⟨.tuple #[.int .i32 0, .bool false], ?_, rfl, bel_put ((Below.setCell hB (p := ⟨w.heap.size + 1, 0, none⟩) (by simp) _).setCell (p := ⟨w.heap.size + 1 + 1, 0, none⟩) (by simp; omega) _) (by have := HZ.out; omega) _⟩
    simp [results, Tryz.f57, go_sem, e2, e3]
  case stop =>
    rintro W ⟨r, hr, c2, c3, hB⟩ hK
    rw [eq2] at c3
    have d2 := boxed_put c2 (l := w2.heap.size) (by have := HZ.out; omega) (.deferred none)
    have d3 := boxed_put c3 (l := w2.heap.size) (by have := HZ.out; omega) (.deferred none)
    have e2 := d2.cell
    have e3 := d3.cell
    gi_wp2
    refine ⟨by simp, .inl ⟨_, _, rfl, run_takeDeferred hK, ?_⟩⟩
    refine ⟨.tuple #[.int .i32 r, .bool true], ?_, rfl, bel_put hB (by have := HZ.out; omega) _⟩
    simp [results, Tryz.f57, go_sem, e2, e3]
end Go.Proofs.YtphnahabonfmmaaGreatDoor.U
namespace Go.Proofs.YtphnahabonfmmaaGreatDoor.E
open Go.RowKit U
set_option linter.unusedVariables false
set_option maxRecDepth 1000000

/-- The constant strings that a body's operations build into values, in their order. -/
def cst : Operand → List ByteArray
  | .const (.string s) => [s]
  | _ => []
def strOf : Op → List ByteArray
  | .build _ fs => fs.toList.flatMap fun x => cst x.2
  | _ => []
def strs : Code → List ByteArray
  | .seq a b => strs a ++ strs b
  | .region _ ops _ => ops.toList.flatMap fun o => strOf o.op
  | _ => []
noncomputable def strAt (f : Func) (i : Nat) : ByteArray := match f.body with
  | some c => (strs c).getD i ByteArray.empty
  | none => ByteArray.empty
/-- The places in the Go text that a body's operations bear, in their order. -/
def poss : Code → List String
  | .seq a b => poss a ++ poss b
  | .region _ ops _ => ops.toList.map (·.pos)
  | _ => []
noncomputable def posAt (f : Func) (i : Nat) : String := match f.body with
  | some c => (poss c).getD i ""
  | none => ""
def code11 (S : Nat → ByteArray) (p : Nat → String) : Code := ((Go.Code.region 0 #[Go.Oper.mk (some 0) (Go.Op.alloc 105) 0 (p 0) #[] none] false).seq ((Go.Code.region 1 #[Go.Oper.mk (some 1) (Go.Op.build 104 #[(0, Go.Operand.const (Go.Value.int Go.IntKind.i64 2171681)), (1, Go.Operand.const (Go.Value.string (S 0)))]) 104 (p 1) #[] none, Go.Oper.mk (some 2) (Go.Op.build 104 #[(0, Go.Operand.const (Go.Value.int Go.IntKind.i64 2171688)), (1, Go.Operand.const (Go.Value.string (S 1)))]) 104 (p 2) #[] none, Go.Oper.mk (some 3) (Go.Op.build 104 #[(0, Go.Operand.const (Go.Value.int Go.IntKind.i64 2175009)), (1, Go.Operand.const (Go.Value.string (S 2)))]) 104 (p 3) #[] none, Go.Oper.mk (some 4) (Go.Op.build 104 #[(0, Go.Operand.const (Go.Value.int Go.IntKind.i64 2568225)), (1, Go.Operand.const (Go.Value.string (S 3))), (2, Go.Operand.const (Go.Value.bool true))]) 104 (p 4) #[] none, Go.Oper.mk (some 5) (Go.Op.build 104 #[(0, Go.Operand.const (Go.Value.int Go.IntKind.i64 2568228)), (1, Go.Operand.const (Go.Value.string (S 4))), (2, Go.Operand.const (Go.Value.bool true))]) 104 (p 5) #[] none, Go.Oper.mk (some 6) (Go.Op.build 104 #[(0, Go.Operand.const (Go.Value.int Go.IntKind.i64 2568237)), (1, Go.Operand.const (Go.Value.string (S 5))), (2, Go.Operand.const (Go.Value.bool true))]) 104 (p 6) #[] none, Go.Oper.mk (some 7) (Go.Op.build 104 #[(0, Go.Operand.const (Go.Value.int Go.IntKind.i64 3362337)), (1, Go.Operand.const (Go.Value.string (S 6))), (2, Go.Operand.const (Go.Value.bool true))]) 104 (p 7) #[] none, Go.Oper.mk (some 8) (Go.Op.build 104 #[(0, Go.Operand.const (Go.Value.int Go.IntKind.i64 6890529)), (1, Go.Operand.const (Go.Value.string (S 7)))]) 104 (p 8) #[] none, Go.Oper.mk (some 9) (Go.Op.build 104 #[(0, Go.Operand.const (Go.Value.int Go.IntKind.i64 6890785)), (1, Go.Operand.const (Go.Value.string (S 8)))]) 104 (p 9) #[] none, Go.Oper.mk (some 10) (Go.Op.build 104 #[(0, Go.Operand.const (Go.Value.int Go.IntKind.i64 6891052)), (1, Go.Operand.const (Go.Value.string (S 9)))]) 104 (p 10) #[] none, Go.Oper.mk (some 11) (Go.Op.build 105 #[(0, Go.Operand.tmp 1), (1, Go.Operand.tmp 2), (2, Go.Operand.tmp 3), (3, Go.Operand.tmp 4), (4, Go.Operand.tmp 5), (5, Go.Operand.tmp 6), (6, Go.Operand.tmp 7), (7, Go.Operand.tmp 8), (8, Go.Operand.tmp 9), (9, Go.Operand.tmp 10)]) 105 (p 11) #[Go.Edge.mk 0 Go.Ground.data, Go.Edge.mk 1 Go.Ground.data, Go.Edge.mk 2 Go.Ground.data, Go.Edge.mk 3 Go.Ground.data, Go.Edge.mk 4 Go.Ground.data, Go.Edge.mk 5 Go.Ground.data, Go.Edge.mk 6 Go.Ground.data, Go.Edge.mk 7 Go.Ground.data, Go.Edge.mk 8 Go.Ground.data, Go.Edge.mk 9 Go.Ground.data] none, Go.Oper.mk none (Go.Op.store 105 (Go.Operand.tmp 0) (Go.Operand.tmp 11)) 0 (p 12) #[Go.Edge.mk 10 Go.Ground.data, Go.Edge.mk 0 Go.Ground.phase, Go.Edge.mk 1 Go.Ground.phase, Go.Edge.mk 2 Go.Ground.phase, Go.Edge.mk 3 Go.Ground.phase, Go.Edge.mk 4 Go.Ground.phase, Go.Edge.mk 5 Go.Ground.phase, Go.Edge.mk 6 Go.Ground.phase, Go.Edge.mk 7 Go.Ground.phase, Go.Edge.mk 8 Go.Ground.phase, Go.Edge.mk 9 Go.Ground.phase, Go.Edge.mk 10 Go.Ground.phase] none] false).seq Go.Code.ret))
theorem body11 : Tryz.f58.body = some (code11 (strAt Tryz.f58) (posAt Tryz.f58)) := by kernel_rfl
theorem str0 : (strAt Tryz.f58 0).data.toList = txt 0 := by kernel_rfl
theorem str1 : (strAt Tryz.f58 1).data.toList = txt 1 := by kernel_rfl
theorem str2 : (strAt Tryz.f58 2).data.toList = txt 2 := by kernel_rfl
theorem str3 : (strAt Tryz.f58 3).data.toList = txt 3 := by kernel_rfl
theorem str4 : (strAt Tryz.f58 4).data.toList = txt 4 := by kernel_rfl
theorem str5 : (strAt Tryz.f58 5).data.toList = txt 5 := by kernel_rfl
theorem str6 : (strAt Tryz.f58 6).data.toList = txt 6 := by kernel_rfl
theorem str7 : (strAt Tryz.f58 7).data.toList = txt 7 := by kernel_rfl
theorem str8 : (strAt Tryz.f58 8).data.toList = txt 8 := by kernel_rfl
theorem str9 : (strAt Tryz.f58 9).data.toList = txt 9 := by kernel_rfl
theorem str_is : ∀ k, k < 10 → (strAt Tryz.f58 k).data.toList = txt k
  | 0, _ => str0
  | 1, _ => str1
  | 2, _ => str2
  | 3, _ => str3
  | 4, _ => str4
  | 5, _ => str5
  | 6, _ => str6
  | 7, _ => str7
  | 8, _ => str8
  | 9, _ => str9
  | k + 10, h => absurd h (by omega)
theorem good {k : Nat} (hk : k < 10) : decs (strAt Tryz.f58 k) (strAt Tryz.f58 k).size 0 = chs k ∧ (strAt Tryz.f58 k).size < 1000 := by
  have h1 := str_is k hk
  have hm : txt k ∈ texts := by
    have hl : k < texts.length := hk
    unfold txt
    rw [List.getD_eq_getElem?_getD, List.getElem?_eq_getElem hl]
    exact List.getElem_mem hl
  have h2 := List.all_eq_true.1 texts_ok _ hm
  have h3 := List.all_eq_true.1 texts_short _ hm
  have h4 : three (txt k) = chs k := by
    have hl : k < texts.length := hk
    unfold chs
    rw [← texts_are]
    unfold txt
    rw [List.getD_eq_getElem?_getD, List.getD_eq_getElem?_getD, List.getElem?_map, List.getElem?_eq_getElem hl]
    rfl
  refine ⟨decs_of h1 h2 h4, ?_⟩
  have h5 : (strAt Tryz.f58 k).size = (strAt Tryz.f58 k).data.toList.length := (Array.length_toList (xs := (strAt Tryz.f58 k).data)).symm
  rw [h5, h1]
  simpa using h3
end Go.Proofs.YtphnahabonfmmaaGreatDoor.E
namespace Go.Proofs.YtphnahabonfmmaaGreatDoor.E
open Go.RowKit U
set_option linter.unusedVariables false

/-- A run's cells; all runs' cells. -/
def rc (S : Nat → ByteArray) (k : Nat) : Array Value := #[.int .i64 (fst k), .string (S k), .bool (alt k)]
def rcs (S : Nat → ByteArray) : Array Value := #[.int .i64 (fst 0), .string (S 0), .bool (alt 0), .int .i64 (fst 1), .string (S 1), .bool (alt 1), .int .i64 (fst 2), .string (S 2), .bool (alt 2), .int .i64 (fst 3), .string (S 3), .bool (alt 3), .int .i64 (fst 4), .string (S 4), .bool (alt 4), .int .i64 (fst 5), .string (S 5), .bool (alt 5), .int .i64 (fst 6), .string (S 6), .bool (alt 6), .int .i64 (fst 7), .string (S 7), .bool (alt 7), .int .i64 (fst 8), .string (S 8), .bool (alt 8), .int .i64 (fst 9), .string (S 9), .bool (alt 9)]
def zrcs : Array Value := (List.replicate 10 [Value.int .i64 0, .string ⟨#[]⟩, .bool false]).flatten.toArray

section
variable {P : Program} {w : World}
theorem wpl_build {ops : Array Oper} {rest : List Oper} {o : Oper} {a : Act} {Q : Exit → Act → World → Prop} (hg : o.guard = none) (t : TypeId) (parts : Array (Nat × Operand)) (ho : o.op = .build t parts)
    (v : Array Value) (hf : P.built t (parts.map fun (i, x) => (i, a.eval x)).toList = some v) (h : wpList P ops Q rest (a.put o.dst (.agg v)) w) : wpList P ops Q (o :: rest) a w :=
  wpList_build hg t parts ho (by rw [hf]; rfl) (by rw [hf]; exact h)
theorem wpl_store_row {ops : Array Oper} {rest : List Oper} {o : Oper} {a : Act} {Q : Exit → Act → World → Prop} (hgd : o.guard = none) (ty : TypeId) (x y : Operand) (ho : o.op = .store ty x y)
    (g : Nat) (cells : Array Value) (hx : a.eval x = .pointer (some ⟨g, 0, none⟩)) (hy : a.eval y = .agg cells)
    (t : TypeId) (old : Array Value) (w' : World) (hg : w'.heap.size = g) (hw : w = w'.alloc (.cells old t)) (hi : (P.info? ty).map (·.size) = some cells.size)
    (hold : old.size = cells.size) (h1 : cells.all (·.oneCell') = true)
    (h : wpList P ops Q rest (a.put o.dst undef) (w'.alloc (.cells cells t))) : wpList P ops Q (o :: rest) a w := by
  subst hg
  subst hw
  refine wpList_plain hgd fun K hK => ?_
  refine wp_store_row ty x y ho w'.heap.size cells hx hy t old (heap_alloc_last w' _) hi hold h1 ?_
  rw [World.setRow_alloc_new]
  exact hK _ _ h
end

theorem zero35 : (Tryz.prog.info? 105).map (fun i => (i.zero, i.size)) = some (some (.agg zrcs), 30) := by kernel_rfl

theorem results_cell {P : Program} {fn : Func} {p : Tmp} {ty : TypeId} (h : fn.results = #[.cell p ty]) (tmps : Array Value) (w : World) :
    (results fn tmps).run P w = ((asAddr (tmps.getD p undef)).run P w).andThen fun a w₁ => (loadVar ty a).run P w₁ := by
  simp only [results, h]
  simp [Sem.run_bind, Result.andThen]

set_option maxRecDepth 100000 in
set_option maxHeartbeats 2000000 in
theorem runs_is (w : World) : Calls Tryz.prog 58 #[] w fun e w' => e = .returned (.agg (rcs (strAt Tryz.f58))) ∧ Bel w w' := by
  refine calls_of_wp Tryz.func58 body11 ?_
  generalize strAt Tryz.f58 = S
  generalize posAt Tryz.f58 = p
  unfold code11
  simp only [Tryz.ntmps58, List.size_toArray, List.length_nil, Nat.reduceSub, Array.replicate_succ, Array.replicate_zero, List.push_toArray, List.append_toArray, List.nil_append, List.cons_append]
  have hz : (rcs S).size = 30 := rfl
  have h1 : (rcs S).all (·.oneCell') = true := by kernel_rfl
  have HZ := Lib.hid hz
  have H1 := Lib.hid h1
  clear hz h1
  go_wp2_with (first | ((with_reducible (show wpList _ _ _ (Oper.mk _ (Op.build 105 _) _ _ _ _ :: _) _ _)); refine wpl_build rfl 105 _ rfl (rcs S) (by kernel_rfl) ?_; generalize hV : rcs S = V at HZ H1 ⊢; replace hV := Lib.hid hV) | ((with_reducible (show wpList _ _ _ (Oper.mk _ (Op.store 105 _ _) _ _ _ _ :: _) _ _)); refine wpl_store_row rfl 105 _ _ rfl w.heap.size V rfl rfl 105 _ w rfl rfl (by rw [HZ.out]; kernel_rfl) (by rw [HZ.out]; rfl) H1.out ?_) | fail)
  have hld := run_loadVar_new (P := Tryz.prog) w 105 V 10 104 (by kernel_rfl) (by rw [HZ.out]; kernel_rfl)
  refine bodyPost_ret (v := .agg V) ?_ rfl ⟨by rw [hV.out], (Bel.refl w).alloc _⟩
  rw [results_cell rfl]
  simp [asAddr, Result.andThen, hld, Act.put]

/-- The run behind the run k of all runs' cells. -/
theorem rcs_at (S : Nat → ByteArray) : ∀ k, k < 10 → (rcs S).extract (k * 3) (k * 3 + 3) = rc S k := by
  intro k hk
  obtain rfl | rfl | rfl | rfl | rfl | rfl | rfl | rfl | rfl | rfl : k = 0 ∨ k = 1 ∨ k = 2 ∨ k = 3 ∨ k = 4 ∨ k = 5 ∨ k = 6 ∨ k = 7 ∨ k = 8 ∨ k = 9 := by omega
  all_goals rfl

theorem and255 {c : Int} (h0 : 0 ≤ c) (h1 : c < 1099511627776) : bits BinOp.and IntKind.i64 c 255 = c % 256 := by
  obtain ⟨a, rfl⟩ : ∃ a : Nat, c = a := ⟨c.toNat, by omega⟩
  have ha : a < 1099511627776 := by omega
  have e1 : (BitVec.ofInt 64 (a : Int)).toNat = a := by
    rw [BitVec.ofInt_natCast, BitVec.toNat_ofNat]; exact Nat.mod_eq_of_lt (by omega)
  have e2 : (BitVec.ofInt 64 (255 : Int)).toNat = 255 := by decide
  have e3 : a &&& 255 = a % 256 := Nat.and_two_pow_sub_one_eq_mod a 8
  show IntKind.i64.wrap ((BitVec.ofInt 64 (a : Int) &&& BitVec.ofInt 64 (255 : Int)).toNat : Int) = _
  rw [BitVec.toNat_and, e1, e2, e3, IntKind.wrap_i64]
  omega

theorem next_any (c : Int) (h0 : 0 ≤ c) (h1 : c < 1099511627776) (w : World) : Calls Tryz.prog 93 #[.int .i64 c] w fun e w' => e = .returned (.int .i64 (nx c)) ∧ w' = w := by
  have ha := and255 h0 h1
  by_cases h : c % 256 = 126
  · have hb : (bits BinOp.and IntKind.i64 c 255 == 126) = true := by rw [ha, beq_iff_eq]; exact h
    go_enter Tryz.func93, Tryz.ntmps93
    go_wp2
    go_ret
    refine ⟨ret_int ?_, rfl⟩
    rw [nx, if_pos h]
    omega
  · have hb : (bits BinOp.and IntKind.i64 c 255 == 126) = false := by rw [ha, beq_eq_false_iff_ne]; exact h
    go_enter Tryz.func93, Tryz.ntmps93
    go_wp2
    go_ret
    refine ⟨ret_int ?_, rfl⟩
    rw [nx, if_neg h]
end Go.Proofs.YtphnahabonfmmaaGreatDoor.E
namespace Go.Proofs.YtphnahabonfmmaaGreatDoor.E
open Go.RowKit U
set_option linter.unusedVariables false

/-- The cells of the run that is told. -/
def fc (S : Nat → ByteArray) : Option Nat → Array Value
  | none => #[.int .i64 0, .string ⟨#[]⟩, .bool false]
  | some k => rc S k
theorem fc_is (S : Nat → ByteArray) (o : Option Nat) : ∃ f T b, fc S o = #[.int .i64 f, .string T, .bool b] := by
  cases o with
  | none => exact ⟨_, _, _, rfl⟩
  | some k => exact ⟨_, _, _, rfl⟩

theorem index_at (S : Nat → ByteArray) {k : Nat} (hk : k < 10) (w : World) : (Instr.index 105 (.agg (rcs S)) (.int .i64 k)).run Tryz.prog w = .ok (.agg #[.int .i64 (fst k), .string (S k), .bool (alt k)]) w := by
  have h := rcs_at S k hk
  have h2 : (0 : Int) ≤ k ∧ (k : Int) < 10 := by omega
  have h3 : k * 3 + 3 = 3 + k * 3 := by omega
  unfold Instr.index part
  simp [go_sem, Tryz.isAgg104, Tryz.sizeOf104, Result.andThen, h2, h, rc]
  omega

/-- A row of three cells that is written over cell by cell. -/
theorem three_set {w : World} {g : Nat} {a b c x y z : Value} {t : TypeId} (h : w.heap[g]? = some (.cells #[a, b, c] t (0, 0))) :
    (((w.setCell ⟨g, 0, none⟩ x).setCell ⟨g, 1, none⟩ y).setCell ⟨g, 2, none⟩ z).heap[g]? = some (.cells #[x, y, z] t (0, 0)) := by
  simp [World.setCell, Array.getElem?_modify, h]
theorem three_cells {w : World} {g : Nat} {a b c : Value} {t : TypeId} (h : w.heap[g]? = some (.cells #[a, b, c] t (0, 0))) :
    w.cell? ⟨g, 0, none⟩ = some a ∧ w.cell? ⟨g, 1, none⟩ = some b ∧ w.cell? ⟨g, 2, none⟩ = some c := by
  simp [World.cell?, h]
theorem three_free {w : World} {g : Nat} {a b c : Value} {t : TypeId} (h : w.heap[g]? = some (.cells #[a, b, c] t (0, 0))) :
    w.frozen? ⟨g, 0, none⟩ = false ∧ w.frozen? ⟨g, 1, none⟩ = false ∧ w.frozen? ⟨g, 2, none⟩ = false := by
  simp [World.frozen?, h]

def RelF (S : Nat → ByteArray) (n : Int) (w : World) (i : Value) (wr : World) : Prop :=
  ∃ k : Nat, k ≤ 10 ∧ i = .int .i64 k ∧ wr.heap[w.heap.size]? = some (.cells (fc S (best n k)) 104 (0, 0)) ∧ Bel w wr

set_option maxRecDepth 100000 in
set_option maxHeartbeats 2000000 in
theorem runFor_is (n : Int) (w : World) : Calls Tryz.prog 88 #[.int .i64 n] w fun e w' => e = .returned (.agg (fc (strAt Tryz.f58) (best n 10))) ∧ Bel w w' := by
  have HR := Lib.hid runs_is
  have HI := Lib.hid (fun k (hk : k < 10) w => index_at (strAt Tryz.f58) hk w)
  generalize strAt Tryz.f58 = S at HR HI ⊢
  generalize rcs S = V at HR HI
  go_enter Tryz.func88, Tryz.ntmps88
  go_wp2_with (go_at_call 58; refine (HR.out _).mono ?_; rintro e w2 ⟨rfl, hb⟩)
  have hg0 : w2.heap[w.heap.size]? = some (.cells (fc S (best n 0)) 104 (0, 0)) := (Below.block hb _ (by simp)).trans (heap_alloc_last w _)
  have hb0 : Bel w w2 := ((Bel.refl w).alloc _).trans hb
  have HG0 := Lib.hid hg0
  have HB0 := Lib.hid hb0
  clear hg0 hb0 hb
  go_loopw [6] (fun i wr => RelF S n w i wr) (fun i _ => 10 - (intOf i).toNat)
  case atStart => exact ⟨0, by omega, rfl, HG0.out, HB0.out⟩
  case round =>
    obtain ⟨k, hk, rfl, hg, hB⟩ := hrel
    have HB := Lib.hid hB
    have HG := Lib.hid hg
    have hlt : w.heap.size < wr.heap.size := (Array.getElem?_eq_some_iff.1 hg).1
    clear hB hg
    by_cases hlk : k < 10
    · have hix := fun w => HI.out k hlk w
      have HS := Lib.hid (show rc S k = #[.int .i64 (fst k), .string (S k), .bool (alt k)] from rfl)
      have HN := Lib.hid (show best n (k + 1) = if fst k ≤ n then some k else best n k from rfl)
      obtain ⟨f0, T0, b0, hf0⟩ := fc_is S (best n k)
      have hg := HG.out
      rw [hf0] at hg
      obtain ⟨c0, c1, c2⟩ := three_cells hg
      obtain ⟨z0, z1, z2⟩ := three_free hg
      have H3 := Lib.hid hg
      replace hf0 := Lib.hid hf0
      clear hg
      generalize fst k = f at hix HS HN
      generalize S k = T at hix HS
      generalize alt k = b at hix HS
      by_cases hle : f ≤ n
      · go_wp2
        refine ⟨⟨k + 1, by omega, rfl, ?_, ?_⟩, by simp [intOf]; omega⟩
        · rw [HN.out, if_pos hle]
          show _ = some (Obj.cells (rc S k) 104 (0, 0))
          rw [HS.out]
          refine (Lib.alloc_old _ _ _ ?_).trans (three_set H3.out)
          simpa using hlt
        · refine Bel.alloc ?_ _
          exact ((Below.setCell HB.out (p := ⟨w.heap.size, 0, none⟩) (by simp) _).setCell (p := ⟨w.heap.size, 1, none⟩) (by simp) _).setCell (p := ⟨w.heap.size, 2, none⟩) (by simp) _
      · go_wp2
        refine ⟨⟨k + 1, by omega, rfl, ?_, HB.out.alloc _⟩, by simp [intOf]; omega⟩
        rw [HN.out, if_neg hle]
        exact (Lib.alloc_old _ _ _ hlt).trans HG.out
    · obtain rfl : k = 10 := by omega
      obtain ⟨f0, T0, b0, hf0⟩ := fc_is S (best n 10)
      have hg := HG.out
      rw [hf0] at hg
      obtain ⟨c0, c1, c2⟩ := three_cells hg
      obtain ⟨z0, z1, z2⟩ := three_free hg
      have H3 := Lib.hid hg
      replace hf0 := Lib.hid hf0
      clear hg
      go_wp2
      refine bodyPost_ret (v := .agg #[.int .i64 f0, .string T0, .bool b0]) ?_ rfl ⟨by rw [hf0.out], ?_⟩
      · exact results_cell_row rfl _ _ w.heap.size 104 _ (0, 0) _ rfl (three_set H3.out) Tryz.underlying104 rfl (by kernel_rfl)
      · exact ((Below.setCell HB.out (p := ⟨w.heap.size, 0, none⟩) (by simp) _).setCell (p := ⟨w.heap.size, 1, none⟩) (by simp) _).setCell (p := ⟨w.heap.size, 2, none⟩) (by simp) _
end Go.Proofs.YtphnahabonfmmaaGreatDoor.E
namespace Go.Proofs.YtphnahabonfmmaaGreatDoor.E
open Go.RowKit Go.Shelf U
set_option linter.unusedVariables false

/-- A string's iterators stand as they stood. -/
def KeptI (W W' : World) : Prop := W.heap.size ≤ W'.heap.size ∧ ∀ (j : Nat) (s : ByteArray) (p : Nat), W.heap[j]? = some (.stringIter s p) → W'.heap[j]? = some (.stringIter s p)

theorem nx_range {c : Int} {p q : Nat} (h0 : 0 ≤ c) (h1 : c ≤ 16777216 + 163 * (p : Int)) (hq : p + 1 ≤ q) : 0 ≤ nx c ∧ nx c ≤ 16777216 + 163 * (q : Int) := by
  unfold nx
  split <;> omega

def RelI (J : List (Int × Int) → World → Prop) (tb : List (Int × Int)) (T : ByteArray) (G : Nat) (i : Value) (wr : World) : Prop :=
  ∃ (pre : List (Int × Int)) (pos fuel : Nat) (c : Int), i = .int .i64 c ∧ 0 ≤ c ∧ c ≤ 16777216 + 163 * (pos : Int) ∧ J pre wr ∧ wr.heap[G]? = some (.stringIter T pos) ∧ tb = pre ++ codesOf c (decs T fuel pos) ∧ T.size ≤ pos + fuel

set_option maxRecDepth 100000 in
set_option maxHeartbeats 2000000 in
theorem codes_in (n l : Nat) (h1 : 1 ≤ n) (f : Int) (T : ByteArray) (b : Bool) (hf : 0 ≤ f ∧ f ≤ 16777216) (hT : T.size < 1000) (tb : List (Int × Int)) (htb : tb = codesOf f (decs T T.size 0)) (Bz : Nat) (J Jx : List (Int × Int) → World → Prop)
    (hJa : ∀ pre W o, J pre W → J pre (W.alloc o))
    (hJi : ∀ pre W G s p p', J pre W → Bz ≤ G → W.heap[G]? = some (.stringIter s p) → J pre (W.iterAt G s p'))
    (hY : ∀ pre x W, J pre W → (∃ rest, tb = pre ++ x :: rest) → YieldAt Fence.wide (n - 1) Tryz.prog l #[.int .i64 x.1, .int .i32 x.2] W fun e W' =>
      (e = .returned (.bool true) ∧ J (pre ++ [x]) W' ∧ KeptI W W') ∨ (e = .returned (.bool false) ∧ Jx (pre ++ [x]) W'))
    (W : World) (hl : l < W.heap.size) (hB : Bz ≤ W.heap.size) (h0 : J [] W) :
    CallsIn Fence.wide n Tryz.prog 59 #[.agg #[.int .i64 f, .string T, .bool b], .func (.yield l) #[] #[]] W fun e W' => (∃ v, e = .returned v) ∧ (J tb W' ∨ ∃ pre, Jx pre W') := by
  have HT := Lib.hid hT
  have HF := Lib.hid hf
  have HTB := Lib.hid htb
  have HJI := Lib.hid hJi
  have HY := Lib.hid hY
  have H2 := Lib.hid (hJa _ _ (.stringIter T 0) (hJa _ _ (.cells #[.int .i64 f, .string T, .bool b] 104) h0))
  have HG := Lib.hid (show Bz ≤ W.heap.size + 1 by omega)
  have HI := Lib.hid (show ((W.alloc (.cells #[.int .i64 f, .string T, .bool b] 104)).alloc (.stringIter T 0)).heap[W.heap.size + 1]? = some (.stringIter T 0) by
    have := heap_alloc_last (W.alloc (.cells #[.int .i64 f, .string T, .bool b] 104)) (.stringIter T 0)
    rwa [World.size_alloc] at this)
  clear hT hf htb hJi hY hJa hB h0 hl
  refine callsIn_of_wp Tryz.func59 rfl trivial ?_ rfl
  simp only [Tryz.ntmps59, List.size_toArray, List.length_cons, List.length_nil, Nat.reduceAdd, Nat.reduceSub, Array.replicate_succ, Array.replicate_zero, List.push_toArray, List.append_toArray, List.nil_append, List.cons_append]
  gi_wp2_with fail
  have H3 := Lib.hid (show RelI J tb T (W.heap.size + 1) (.int .i64 f) ((W.alloc (.cells #[.int .i64 f, .string T, .bool b] 104)).alloc (.stringIter T 0)) from
    ⟨[], 0, T.size, f, rfl, HF.out.1, by have := HF.out.2; omega, H2.out, HI.out, by rw [List.nil_append]; exact HTB.out, by omega⟩)
  clear H2 HI HTB HF
  generalize hGb : W.heap.size + 1 = G at HG H3 ⊢
  gi_loopw [4] (fun i wr => RelI J tb T G i wr) (fun _ wr => T.size - wr.iterPos G)
  case atStart => exact H3.out
  case round =>
    obtain ⟨pre, pos, fuel, c, rfl, c0, c1, hJ, hit, htb, hfu⟩ := hrel
    have HJ := Lib.hid hJ
    have HIT := Lib.hid hit
    have HC := Lib.hid (And.intro c0 c1)
    have HTB := Lib.hid htb
    have HFU := Lib.hid hfu
    clear hJ c0 c1 htb hfu
    by_cases hp : pos < T.size
    · obtain ⟨F, hF⟩ : ∃ F, fuel = F + 1 := ⟨fuel - 1, by have := HFU.out; omega⟩
      obtain ⟨r, wd, hd⟩ : ∃ r wd, Utf8.decode T pos = (r, wd) := ⟨_, _, rfl⟩
      have hwd : 1 ≤ wd := by have := width_pos T pos hp; rw [hd] at this; exact this
      have hds : codesOf c (decs T fuel pos) = (c, (r : Int)) :: codesOf (nx c) (decs T F (pos + wd)) := by
        rw [hF, decs_at hp, hd]
        rfl
      have hnx : ∀ ty, (Instr.next (.pointer (some ⟨G, 0, none⟩)) true ty).run Tryz.prog wr = .ok (.tuple #[.bool true, .int .i64 pos, .int .i32 r]) (wr.iterAt G T (pos + wd)) := fun ty => by
        have := Lib.run_next_any_at (P := Tryz.prog) wr G T pos ty hit hp
        rwa [hd] at this
      have HJ2 := Lib.hid (HJI.out _ _ G T pos (pos + wd) HJ.out HG.out hit)
      have HI2 := Lib.hid (Lib.iterAt_heap wr G T pos (pos + wd) hit)
      have HTB2 := Lib.hid (show tb = (pre ++ [(c, (r : Int))]) ++ codesOf (nx c) (decs T F (pos + wd)) by rw [HTB.out, hds]; simp)
      have HNR := Lib.hid (nx_range (q := pos + wd) HC.out.1 HC.out.2 (by omega))
      have HM := Lib.hid (show T.size - (pos + wd) < T.size - wr.iterPos G by rw [show wr.iterPos G = pos by simp [World.iterPos, hit]]; omega)
      have HFU2 := Lib.hid (show T.size ≤ pos + wd + F by have := HFU.out; omega)
      have HNC := Lib.hid (fun w => next_any c HC.out.1 (by have := HC.out.2; have := HT.out; omega) w)
      obtain ⟨fn, tmps, assign, body, hy, hR⟩ := HY.out pre (c, (r : Int)) _ HJ2.out ⟨_, by rw [HTB.out, hds]⟩
      dsimp only at hy
      have HRo := Lib.hid hR
      clear hR hd hds hwd hp hF
      generalize wr.iterAt G T (pos + wd) = w2 at hnx hy HJ2 HI2 HRo
      gi_wp2_with fail
      refine HRo.out.mono ?_
      rintro e w3 (⟨rfl, hJ3, hk3⟩ | ⟨rfl, hJx3⟩)
      · have HJ3 := Lib.hid hJ3
        have HI3 := Lib.hid (hk3.2 _ _ _ HI2.out)
        clear hJ3 hk3 hy hnx hit
        gi_wp2_with fail
        refine ⟨trivial, ?_⟩
        gi_at_call 93
        refine (callsIn_wide.2 (HNC.out _)).mono ?_
        rintro e w4 ⟨rfl, rfl⟩
        gi_wp2_with fail
        refine ⟨⟨pre ++ [(c, (r : Int))], pos + wd, F, nx c, rfl, HNR.out.1, HNR.out.2, HJ3.out, HI3.out, HTB2.out, HFU2.out⟩, ?_⟩
        have h5 : w4.iterPos G = pos + wd := by simp [World.iterPos, HI3.out]
        rw [h5]
        exact HM.out
      · have HJ4 := Lib.hid hJx3
        clear hJx3 hy hnx hit
        gi_wp2_with fail
        refine bodyPost_ret (results_none rfl _ _ _) rfl ?_
        exact ⟨⟨_, rfl⟩, .inr ⟨_, HJ4.out⟩⟩
    · have hnx : ∀ ty, (Instr.next (.pointer (some ⟨G, 0, none⟩)) true ty).run Tryz.prog wr = _ := fun ty => Lib.run_next_end_at wr G T pos ty hit hp
      have HJ5 := Lib.hid (show J tb wr by
        have h := HTB.out
        rw [decs_end T fuel pos hp] at h
        simp only [codesOf, List.append_nil] at h
        rw [h]
        exact HJ.out)
      gi_wp2_with fail
      go_end0
      exact ⟨⟨_, rfl⟩, .inl HJ5.out⟩
end Go.Proofs.YtphnahabonfmmaaGreatDoor.E
namespace Go.Proofs.YtphnahabonfmmaaGreatDoor.E
open Go.RowKit Go.Shelf U
set_option linter.unusedVariables false

/-- How a round may be left: it goes on, or it returns; what is no row of cells lies as it lay. -/
def endsR (I : List (Int × Int) → World → Prop) (Ix : World → Prop) (pre : List (Int × Int)) (W : World) : Exit → Act → World → Prop
  | .normal, _, W' => KeepsOthers W W' ∧ I pre W'
  | .ret, _, W' => KeepsOthers W W' ∧ Ix W'
  | _, _, _ => False

theorem range_codes (tb : List (Int × Int)) {P : Program} {m gf : Nat} {g : Operand} {ps : Array Tmp} {assign body : Code} {Q : Exit → Act → World → Prop} {a : Act} {Wz : World} {pb : Array Value}
    (h1 : 1 ≤ m) (hg : a.eval g = .func (.func gf) pb #[]) (eg : ∀ args w, (callFunc gf args).run P w = .ok (.enter gf args) w) (hps : ps.size = 2)
    (I : List (Int × Int) → World → Prop) (Ix : World → Prop)
    (hIp : ∀ pre W o L, I pre W → W.heap[Wz.heap.size + 1]? = some (.loop L) → I pre (W.putObj (Wz.heap.size + 1) o)) (hXp : ∀ W o L, Ix W → W.heap[Wz.heap.size + 1]? = some (.loop L) → Ix (W.putObj (Wz.heap.size + 1) o))
    (hIa : ∀ pre W o, I pre W → I pre (W.alloc o))
    (hIi : ∀ pre W G s p p', I pre W → Wz.heap.size + 2 ≤ G → W.heap[G]? = some (.stringIter s p) → I pre (W.iterAt G s p'))
    (h0 : I [] Wz) (a₁ : Int × Int → Act)
    (hassign : ∀ (l : Nat) (x : Int × Int) (W : World) (K : Act → World → Prop), K (a₁ x) W →
      assign.wpIn (Fence.wide.inRound l) (m - 1 - 1) P (Exit.then K (fun _ _ _ => False)) { tmps := (ps.zip #[.int .i64 x.1, .int .i32 x.2]).foldl (fun t (p, v) => t.setIfInBounds p v) a.tmps, defers := [] } W)
    (hbody : ∀ (l : Nat) (pre : List (Int × Int)) (x : Int × Int) (W : World), I pre W → (∃ rest, tb = pre ++ x :: rest) → body.wpIn (Fence.wide.inRound l) (m - 1 - 1) P (endsR I Ix (pre ++ [x]) W) (a₁ x) W)
    (hit : ∀ (J Jx : List (Int × Int) → World → Prop), (∀ pre W o, J pre W → J pre (W.alloc o)) →
      (∀ pre W G s p p', J pre W → Wz.heap.size + 2 ≤ G → W.heap[G]? = some (.stringIter s p) → J pre (W.iterAt G s p')) →
      (∀ pre x W, J pre W → (∃ rest, tb = pre ++ x :: rest) → YieldAt Fence.wide (m - 1 - 1) P (Wz.heap.size + 1) #[.int .i64 x.1, .int .i32 x.2] W fun e W' =>
        (e = .returned (.bool true) ∧ J (pre ++ [x]) W' ∧ KeptI W W') ∨ (e = .returned (.bool false) ∧ Jx (pre ++ [x]) W')) →
      ∀ W, Wz.heap.size + 1 < W.heap.size → J [] W →
      CallsIn Fence.wide (m - 1) P gf (pb ++ #[.func (.yield (Wz.heap.size + 1)) #[] #[]]) W fun e W' => (∃ v, e = .returned v) ∧ (J tb W' ∨ ∃ pre, Jx pre W'))
    (hdone : ∀ W, I tb W → W.heap[Wz.heap.size]? = some (.deferred (some [])) → Q .normal { a with defers := { target := .collected Wz.heap.size, args := #[] } :: a.defers } W)
    (hstop : ∀ W, Ix W → W.heap[Wz.heap.size]? = some (.deferred (some [])) → Code.ret.wpIn Fence.wide m P Q { a with defers := { target := .collected Wz.heap.size, args := #[] } :: a.defers } W) :
    (Code.rangeFunc g ps assign body).wpIn Fence.wide m P Q a Wz := by
  refine wpIn_rangeFunc fun fn _ => ?_
  let rc : LoopState → Option Code → Loop := fun st pe => { state := st, pending := pe, fn, tmps := a.tmps, params := ps, assign, body, defers := Wz.heap.size }
  let W1 : World := (Wz.alloc (.deferred (some []))).alloc (.loop (rc .ready none))
  have hsz : (Wz.alloc (.deferred (some []))).heap.size = Wz.heap.size + 1 := World.size_alloc _ _
  have hl1 : W1.heap[Wz.heap.size + 1]? = some (.loop (rc .ready none)) := by
    have h := World.alloc_heap_new (Wz.alloc (.deferred (some []))) (.loop (rc .ready none))
    rwa [hsz] at h
  have hd1 : W1.heap[Wz.heap.size]? = some (.deferred (some [])) :=
    (Below.block ((Bel.refl (Wz.alloc (.deferred (some [])))).alloc (.loop (rc .ready none))) _ (by rw [hsz]; omega)).trans (World.alloc_heap_new Wz _)
  have put_d : ∀ (W : World) (o : Obj), W.heap[Wz.heap.size]? = some (.deferred (some [])) → (W.putObj (Wz.heap.size + 1) o).heap[Wz.heap.size]? = some (.deferred (some [])) := fun W o h => (World.putObj_heap_other (by omega)).trans h
  refine ⟨Wz.heap.size + 1, [{ target := .collected Wz.heap.size, args := #[] }], W1, { target := .fn (.func gf) #[], args := pb ++ #[.func (.yield (Wz.heap.size + 1)) #[] #[]] }, W1, gf, pb ++ #[.func (.yield (Wz.heap.size + 1)) #[] #[]], W1, ?_, ?_, fun _ _ => trivial, ?_, fun _ => h1, ?_⟩
  · exact run_enterLoop_outer fn a.tmps ps assign body
  · simp only [resolve, hg]
    simp [go_sem]
  · simp [invoke, go_sem, eg]
  refine (hit (fun pre W => I pre W ∧ W.heap[Wz.heap.size + 1]? = some (.loop (rc .ready none)) ∧ W.heap[Wz.heap.size]? = some (.deferred (some [])))
    (fun _ W => Ix W ∧ W.heap[Wz.heap.size + 1]? = some (.loop (rc .done (some .ret))) ∧ W.heap[Wz.heap.size]? = some (.deferred (some [])))
    (fun pre W o h => ⟨hIa _ _ _ h.1, (Lib.alloc_old W o _ (Array.getElem?_eq_some_iff.1 h.2.1).1).trans h.2.1, (Lib.alloc_old W o _ (Array.getElem?_eq_some_iff.1 h.2.2).1).trans h.2.2⟩)
    (fun pre W G s p p' h hG hs => ⟨hIi _ _ _ _ _ _ h.1 hG hs, (Lib.iterAt_other W G _ s p' (by omega)).trans h.2.1, (Lib.iterAt_other W G _ s p' (by omega)).trans h.2.2⟩)
    ?_ W1 (Array.getElem?_eq_some_iff.1 hl1).1 ⟨hIa _ _ _ (hIa _ _ _ h0), hl1, hd1⟩).mono ?_
  · rintro pre x W ⟨hi, hl, hd⟩ hx
    have hlt : Wz.heap.size + 1 < W.heap.size := (Array.getElem?_eq_some_iff.1 hl).1
    refine ⟨fn, _, assign, body, run_yield hl hps.symm, roundIn_of_wpIn trivial (hassign _ x W _ ⟨_, run_beginRound hl rfl, ?_⟩)⟩
    have hl2 : (W.putObj (Wz.heap.size + 1) (.loop { rc .ready none with state := .busy })).heap[Wz.heap.size + 1]? = some (.loop { rc .ready none with state := .busy }) := World.putObj_heap_same hlt
    have hd2 := put_d W (.loop { rc .ready none with state := .busy }) hd
    refine wpIn_mono (hbody _ pre x _ (hIp _ _ _ _ hi hl) hx) ?_
    rintro e a3 W3 hp
    cases e with
    | normal =>
      obtain ⟨hk, hi3⟩ := hp
      have hl3 := hk.same _ _ hl2 rfl
      have hd3 := hk.same _ _ hd2 rfl
      have hlt3 : Wz.heap.size + 1 < W3.heap.size := (Array.getElem?_eq_some_iff.1 hl3).1
      refine ⟨_, _, run_endRound none hl3, .inl ⟨rfl, ⟨hIp _ _ _ _ hi3 hl3, World.putObj_heap_same hlt3, put_d _ _ hd3⟩, ?_, ?_⟩⟩
      · have h := hk.size
        rw [World.putObj_size] at h ⊢
        exact h
      · intro j s p hj
        have hjl : j ≠ Wz.heap.size + 1 := fun e => by rw [e, hl] at hj; cases hj
        exact (World.putObj_heap_other hjl).trans (hk.same _ _ ((World.putObj_heap_other hjl).trans hj) rfl)
    | ret =>
      obtain ⟨hk, hx3⟩ := hp
      have hl3 := hk.same _ _ hl2 rfl
      have hd3 := hk.same _ _ hd2 rfl
      exact ⟨_, _, run_endRound (some .ret) hl3, .inr ⟨rfl, hXp _ _ _ hx3 hl3, World.putObj_heap_same (Array.getElem?_eq_some_iff.1 hl3).1, put_d _ _ hd3⟩⟩
    | exit id => exact hp.elim
    | goto t => exact hp.elim
    | panic ch => exact hp.elim
    | outgrown => exact hp.elim
  · rintro e W2 ⟨⟨v, rfl⟩, (⟨hi, hl, hd⟩ | ⟨pre, hi, hl, hd⟩)⟩
    · exact ⟨none, _, run_endLoop hl (by simp [rc]), hdone _ (hIp _ _ _ _ hi hl) (put_d _ _ hd)⟩
    · exact ⟨some .ret, _, run_endLoop hl (by simp [rc]), hstop _ (hXp _ _ _ hi hl) (put_d _ _ hd)⟩
end Go.Proofs.YtphnahabonfmmaaGreatDoor.E
namespace Go.Proofs.YtphnahabonfmmaaGreatDoor.E
open Go.RowKit Go.Shelf U
set_option linter.unusedVariables false
attribute [local go_sem] Oper.semAt_some

theorem bel_put {w W : World} {l : Nat} (h : Bel w W) (hl : w.heap.size ≤ l) (o : Obj) : Bel w (W.putObj l o) :=
  ⟨h.os, h.tape, h.output, by rw [World.putObj_size]; exact h.size, fun j hj => (World.putObj_heap_other (by omega)).trans (h.block j hj)⟩
theorem boxed_put {W : World} {B t l : Nat} {v : Value} (h : Boxed W B t v) (hl : B ≠ l) (o : Obj) : Boxed (W.putObj l o) B t v := (World.putObj_heap_other hl).trans h
theorem boxed_bel {W W' : World} {B t : Nat} {v : Value} (h : Boxed W B t v) (hb : Bel W W') : Boxed W' B t v := (hb.block B h.lt).trans h
theorem boxed_iter {W : World} {B t G : Nat} {v : Value} (h : Boxed W B t v) (hg : B ≠ G) (s : ByteArray) (p : Nat) : Boxed (W.iterAt G s p) B t v := (Lib.iterAt_other W G B s p hg).trans h

/-- What runFor tells is a run of the chapter's, or none. -/
theorem fc_good (o : Option Nat) (ho : ∀ k, o = some k → k < 10) : ∃ f T b, fc (strAt Tryz.f58) o = #[.int .i64 f, .string T, .bool b] ∧ tabO o = codesOf f (decs T T.size 0) ∧ (0 ≤ f ∧ f ≤ 16777216) ∧ T.size < 1000 := by
  cases o with
  | none => exact ⟨0, ⟨#[]⟩, false, rfl, rfl, by omega, by decide⟩
  | some k =>
    have hk := ho k rfl
    exact ⟨fst k, strAt Tryz.f58 k, alt k, rfl, by rw [(good hk).1]; rfl, fst_range k hk, (good hk).2⟩

/-- Between two rounds. -/
def Inv (n : Int) (B : Nat) (w : World) (pre : List (Int × Int)) (W : World) : Prop :=
  (∀ p ∈ pre, p.1 ≠ n) ∧ Boxed W B 3 (.int .i64 n) ∧ Boxed W (B + 1) 21 (.int .i32 0) ∧ Boxed W (B + 2) 4 (.bool false) ∧ Bel w W
/-- A round has found it. -/
def Fnd (tb : List (Int × Int)) (n : Int) (B : Nat) (w : World) (W : World) : Prop :=
  ∃ r, look tb n = (r, true) ∧ Boxed W (B + 1) 21 (.int .i32 r) ∧ Boxed W (B + 2) 4 (.bool true) ∧ Bel w W

theorem Inv.put {n : Int} {B l : Nat} {w W : World} {pre : List (Int × Int)} (h : Inv n B w pre W) (h1 : B + 2 < l) (h2 : w.heap.size ≤ l) (o : Obj) : Inv n B w pre (W.putObj l o) :=
  ⟨h.1, boxed_put h.2.1 (by omega) o, boxed_put h.2.2.1 (by omega) o, boxed_put h.2.2.2.1 (by omega) o, bel_put h.2.2.2.2 h2 o⟩
theorem Inv.bel {n : Int} {B : Nat} {w W W' : World} {pre : List (Int × Int)} (h : Inv n B w pre W) (hb : Bel W W') : Inv n B w pre W' :=
  ⟨h.1, boxed_bel h.2.1 hb, boxed_bel h.2.2.1 hb, boxed_bel h.2.2.2.1 hb, h.2.2.2.2.trans hb⟩
theorem Inv.iter {n : Int} {B G : Nat} {w W : World} {pre : List (Int × Int)} (h : Inv n B w pre W) (h1 : B + 2 < G) (h2 : w.heap.size ≤ G) (s : ByteArray) (p : Nat) : Inv n B w pre (W.iterAt G s p) :=
  ⟨h.1, boxed_iter h.2.1 (by omega) s p, boxed_iter h.2.2.1 (by omega) s p, boxed_iter h.2.2.2.1 (by omega) s p, Lib.below_iterAt h.2.2.2.2 h2 s p⟩
theorem Fnd.put {tb : List (Int × Int)} {n : Int} {B l : Nat} {w W : World} (h : Fnd tb n B w W) (h1 : B + 2 < l) (h2 : w.heap.size ≤ l) (o : Obj) : Fnd tb n B w (W.putObj l o) := by
  obtain ⟨r, h0, h3, h4, h5⟩ := h
  exact ⟨r, h0, boxed_put h3 (by omega) o, boxed_put h4 (by omega) o, bel_put h5 h2 o⟩

set_option maxRecDepth 100000 in
set_option maxHeartbeats 2000000 in
theorem rune_is (n : Int) (w : World) : Calls Tryz.prog 55 #[.int .i64 n] w fun e w' => e = .returned (.tuple #[.int .i32 (runeL n).1, .bool (runeL n).2]) ∧ Bel w w' := by
  obtain ⟨f, T, b, hfc, htb, hf, hT⟩ := fc_good (best n 10) (fun k h => best_lt h)
  have HR := Lib.hid (fun w => by have := runFor_is n w; rw [hfc] at this; exact this : ∀ w, Calls Tryz.prog 88 #[.int .i64 n] w fun e w' => e = .returned (.agg #[.int .i64 f, .string T, .bool b]) ∧ Bel w w')
  unfold runeL
  generalize tabO (best n 10) = tb at htb ⊢
  have HTB := Lib.hid htb
  have HF := Lib.hid hf
  have HTS := Lib.hid hT
  clear hfc htb hf hT
  refine (callsIn_wide (n := 4)).1 ?_
  refine callsIn_of_wp_marks Tryz.func55 rfl trivial ?_ rfl
  simp only [Tryz.ntmps55, List.size_toArray, List.length_cons, List.length_nil, Nat.reduceAdd, Nat.reduceSub, Array.replicate_succ, Array.replicate_zero, List.push_toArray, List.append_toArray, List.nil_append, List.cons_append]
  gi_wp2_with fail
  refine ⟨trivial, ?_⟩
  gi_at_call 88
  refine (callsIn_wide.2 (HR.out _)).mono ?_
  rintro e Wz ⟨rfl, hb2⟩
  have b1 : Boxed (((w.alloc (.cells #[.int .i64 n] 3)).alloc (.cells #[.int .i32 0] 21)).alloc (.cells #[.bool false] 4)) w.heap.size 3 (.int .i64 n) := ((Boxed.new w 3 _).alloc _).alloc _
  have b2 : Boxed (((w.alloc (.cells #[.int .i64 n] 3)).alloc (.cells #[.int .i32 0] 21)).alloc (.cells #[.bool false] 4)) (w.heap.size + 1) 21 (.int .i32 0) := by
    have h := (Boxed.new (w.alloc (.cells #[.int .i64 n] 3)) 21 (.int .i32 0)).alloc (.cells #[.bool false] 4)
    rwa [World.size_alloc] at h
  have b3 : Boxed (((w.alloc (.cells #[.int .i64 n] 3)).alloc (.cells #[.int .i32 0] 21)).alloc (.cells #[.bool false] 4)) (w.heap.size + 2) 4 (.bool false) := by
    have h := Boxed.new ((w.alloc (.cells #[.int .i64 n] 3)).alloc (.cells #[.int .i32 0] 21)) 4 (.bool false)
    rwa [World.size_alloc, World.size_alloc] at h
  have hB : Bel w (((w.alloc (.cells #[.int .i64 n] 3)).alloc (.cells #[.int .i32 0] 21)).alloc (.cells #[.bool false] 4)) := (((Bel.refl w).alloc _).alloc _).alloc _
  have hz : w.heap.size + 3 ≤ Wz.heap.size := by
    have h := Below.size hb2
    simpa using h
  have HI0 := Lib.hid (⟨by simp, boxed_bel b1 hb2, boxed_bel b2 hb2, boxed_bel b3 hb2, hB.trans hb2⟩ : Inv n w.heap.size w [] Wz)
  have HZ := Lib.hid hz
  clear b1 b2 b3 hB hz hb2
  gi_wp2_with fail
  have eq2 : w.heap.size + 2 = w.heap.size + 1 + 1 := rfl
  refine range_codes tb (by decide) rfl (enters_of Tryz.func59 (by kernel_rfl) rfl) rfl (Inv n w.heap.size w) (Fnd tb n w.heap.size w)
    (fun pre W o L h _ => h.put (by have := HZ.out; omega) (by have := HZ.out; omega) o) (fun W o L h _ => h.put (by have := HZ.out; omega) (by have := HZ.out; omega) o) (fun pre W o h => h.bel ((Bel.refl W).alloc o))
    (fun pre W G s p p' h hG hs => h.iter (by have := HZ.out; omega) (by have := HZ.out; omega) s p') HI0.out
    (fun x => { tmps := #[.int .i64 n, .pointer (some ⟨w.heap.size, 0, none⟩), .pointer (some ⟨w.heap.size + 1, 0, none⟩), .pointer (some ⟨w.heap.size + 1 + 1, 0, none⟩), .int .i64 x.1, .int .i32 x.2, .int .i64 n, .agg #[.int .i64 f, .string T, .bool b], .func (.func 59) #[.agg #[.int .i64 f, .string T, .bool b]] #[], .int .i64 x.1, .int .i32 x.2, undef, undef, undef, undef], defers := [] }) ?assign ?body ?it ?done ?stop
  case assign =>
    intro l x W K hK
    gi_wp2
    exact hK
  case it =>
    intro J Jx hJa hJi hY W hl hj
    exact codes_in 3 _ (by decide) f T b HF.out HTS.out tb HTB.out (Wz.heap.size + 2) J Jx hJa hJi hY W hl (by omega) hj
  case body =>
    rintro l pre x W ⟨hp, c1, c2, c3, hB⟩ hx
    rw [eq2] at c3
    have k1 := c1.cell
    have k2 := c2.cell
    have k3 := c3.cell
    have f2 := c2.frozen
    have f3 := c3.frozen
    have HC2 := Lib.hid c2
    have HC3 := Lib.hid c3
    have HC1 := Lib.hid c1
    have HB := Lib.hid hB
    have HX := Lib.hid hx
    have HP := Lib.hid hp
    clear c1 c2 c3 hB hx hp
    gi_wp2
    · rename_i he
      have he' : x.1 = n := by simpa using he
      obtain ⟨rest, hr⟩ := HX.out
      refine ⟨(KeepsOthers.setCell _ _ _).trans (KeepsOthers.setCell _ _ _), x.2, ?_, ?_, ?_, ?_⟩
      · exact look_hit (rest := rest) (by rw [hr, ← he']) HP.out
      · exact (HC2.out.set _).other (by omega) _
      · exact (HC3.out.other (by omega) _).set _
      · exact (Below.setCell HB.out (p := ⟨w.heap.size + 1, 0, none⟩) (by simp) _).setCell (p := ⟨w.heap.size + 1 + 1, 0, none⟩) (by simp; omega) _
    · rename_i he
      refine ⟨KeepsOthers.refl _, fun p hp => ?_, HC1.out, HC2.out, HC3.out, HB.out⟩
      rcases List.mem_append.1 hp with hp | hp
      · exact HP.out p hp
      · simp at hp
        subst hp
        simpa using he
  case done =>
    rintro W ⟨hp, c1, c2, c3, hB⟩ hK
    rw [eq2] at c3
    have k2 := c2.cell
    have k3 := c3.cell
    have f2 := c2.frozen
    have f3 := c3.frozen
    gi_wp2
    have hK' := ((KeepsOthers.setCell W ⟨w.heap.size + 1, 0, none⟩ (.int .i32 0)).trans (KeepsOthers.setCell _ ⟨w.heap.size + 1 + 1, 0, none⟩ (.bool false))).same _ _ hK rfl
    have d2 := boxed_put ((c2.set (.int .i32 0)).other (B' := w.heap.size + 1 + 1) (by omega) (.bool false)) (l := Wz.heap.size) (by have := HZ.out; omega) (.deferred none)
    have d3 := boxed_put ((c3.other (B' := w.heap.size + 1) (by omega) (.int .i32 0)).set (.bool false)) (l := Wz.heap.size) (by have := HZ.out; omega) (.deferred none)
    have e2 := d2.cell
    have e3 := d3.cell
    refine ⟨by simp, .inl ⟨_, _, rfl, run_takeDeferred hK', ?_⟩⟩
    rw [look_miss hp]
    refine ⟨.tuple #[.int .i32 0, .bool false], ?_, rfl, bel_put ((Below.setCell hB (p := ⟨w.heap.size + 1, 0, none⟩) (by simp) _).setCell (p := ⟨w.heap.size + 1 + 1, 0, none⟩) (by simp; omega) _) (by have := HZ.out; omega) _⟩
    simp [results, Tryz.f55, go_sem, e2, e3]
  case stop =>
    rintro W ⟨r, hr, c2, c3, hB⟩ hK
    rw [eq2] at c3
    have d2 := boxed_put c2 (l := Wz.heap.size) (by have := HZ.out; omega) (.deferred none)
    have d3 := boxed_put c3 (l := Wz.heap.size) (by have := HZ.out; omega) (.deferred none)
    have e2 := d2.cell
    have e3 := d3.cell
    gi_wp2
    refine ⟨by simp, .inl ⟨_, _, rfl, run_takeDeferred hK, ?_⟩⟩
    refine ⟨.tuple #[.int .i32 r, .bool true], ?_, rfl, bel_put hB (by have := HZ.out; omega) _⟩
    simp [results, Tryz.f55, go_sem, e2, e3]
end Go.Proofs.YtphnahabonfmmaaGreatDoor.E
