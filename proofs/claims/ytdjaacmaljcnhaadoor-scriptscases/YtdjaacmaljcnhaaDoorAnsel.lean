/- What latin.Ansel answers of any number: the character that the chapter's list has for it, or none. Tables as they are laid. -/
import Derived.Test.YtdjaacmaljcnhaaDoorNums
namespace Go.Proofs.YtdjaacmaljcnhaaDoor.U
open Go.RowKit Go.Shelf
set_option linter.unusedVariables false
attribute [local go_sem] Oper.semAt_some

/-- Between two rounds. -/
def Inv (n : Int) (B : Nat) (w : World) (pre : List (Int × Int)) (W : World) : Prop :=
  (∀ p ∈ pre, p.1 ≠ n) ∧ Boxed W B 3 (.int .i64 n) ∧ Boxed W (B + 1) 21 (.int .i32 0) ∧ Boxed W (B + 2) 4 (.bool false) ∧ Bel w W
/-- A round has found it. -/
def Fnd (tb : List (Int × Int)) (n : Int) (B : Nat) (w : World) (W : World) : Prop :=
  ∃ r, look tb n = (r, true) ∧ Boxed W (B + 1) 21 (.int .i32 r) ∧ Boxed W (B + 2) 4 (.bool true) ∧ Bel w W
theorem Inv.tch {n : Int} {B b0 b1 E : Nat} {w W W' : World} {pre : List (Int × Int)} (h : Inv n B w pre W) (hc : Tch b0 b1 E W W') (h1 : b1 ≤ b0) (h2 : B + 3 ≤ E) (h3 : w.heap.size ≤ B) : Inv n B w pre W' :=
  ⟨h.1, hc.boxed h.2.1 (by omega) (by omega), hc.boxed h.2.2.1 (by omega) (by omega), hc.boxed h.2.2.2.1 (by omega) (by omega), Below.trans h.2.2.2.2 ⟨hc.os, hc.tape, hc.output, hc.size, fun j hj => hc.block j (by omega) (by omega)⟩⟩
theorem Fnd.tch {tb : List (Int × Int)} {n : Int} {B b0 b1 E : Nat} {w W W' : World} (h : Fnd tb n B w W) (hc : Tch b0 b1 E W W') (h1 : b1 ≤ b0) (h2 : B + 3 ≤ E) (h3 : w.heap.size ≤ B) : Fnd tb n B w W' := by
  obtain ⟨r, h0, k1, k2, k3⟩ := h
  exact ⟨r, h0, hc.boxed k1 (by omega) (by omega), hc.boxed k2 (by omega) (by omega), Below.trans k3 ⟨hc.os, hc.tape, hc.output, hc.size, fun j hj => hc.block j (by omega) (by omega)⟩⟩

set_option maxRecDepth 100000 in
set_option maxHeartbeats 2000000 in
theorem ansel_is (n : Int) (hn63 : n ≤ 9223372036854775807) (w : World) (hT : Tz w) : Calls Tryd.prog 8 #[.int .i64 n] w fun e w' => e = .returned (.tuple #[.int .i32 (look tabA n).1, .bool (look tabA n).2]) ∧ Bel w w' := by
  have hG : Good ⟨txtA.toArray⟩ tabA recsA := by
    have h := goodA
    rwa [show SA = ⟨txtA.toArray⟩ by kernel_rfl] at h
  have HT := Lib.hid hT
  have HL := Lib.hid (fun w h => line_is txtA tabA recsA hG (of_decide_eq_true (by kernel_rfl)) n hn63 w h)
  have hx := lineOf_ok hG.ok n
  have htl := hG.tells n
  rw [← htl]
  refine (callsIn_wide (n := 6)).1 ?_
  refine callsIn_of_wp_marks Tryd.func8 bodyA trivial ?_ rfl
  rw [show ∀ p, codeA (strAt Tryd.f8) p = codeA (fun _ => ⟨txtA.toArray⟩) p from fun p => by kernel_rfl]
  generalize posAt Tryd.f8 = p
  generalize (⟨txtA.toArray⟩ : ByteArray) = S at HL ⊢
  generalize lineOf recsA n = x at HL hx ⊢
  unfold codeA
  simp only [Tryd.ntmps8, List.size_toArray, List.length_cons, List.length_nil, Nat.reduceAdd, Nat.reduceSub, Array.replicate_succ, Array.replicate_zero, List.push_toArray, List.append_toArray, List.nil_append, List.cons_append]
  clear hG htl hT hn63
  have HX := Lib.hid hx
  clear hx
  gi_wp2_with fail
  have b1 : Boxed (((w.alloc (.cells #[.int .i64 n] 3)).alloc (.cells #[.int .i32 0] 21)).alloc (.cells #[.bool false] 4)) w.heap.size 3 (.int .i64 n) := ((Boxed.new w 3 _).alloc _).alloc _
  have b2 : Boxed (((w.alloc (.cells #[.int .i64 n] 3)).alloc (.cells #[.int .i32 0] 21)).alloc (.cells #[.bool false] 4)) (w.heap.size + 1) 21 (.int .i32 0) := by
    have h := (Boxed.new (w.alloc (.cells #[.int .i64 n] 3)) 21 (.int .i32 0)).alloc (.cells #[.bool false] 4)
    rwa [World.size_alloc] at h
  have b3 : Boxed (((w.alloc (.cells #[.int .i64 n] 3)).alloc (.cells #[.int .i32 0] 21)).alloc (.cells #[.bool false] 4)) (w.heap.size + 2) 4 (.bool false) := by
    have h := Boxed.new ((w.alloc (.cells #[.int .i64 n] 3)).alloc (.cells #[.int .i32 0] 21)) 4 (.bool false)
    rwa [World.size_alloc, World.size_alloc] at h
  have hB : Bel w (((w.alloc (.cells #[.int .i64 n] 3)).alloc (.cells #[.int .i32 0] 21)).alloc (.cells #[.bool false] 4)) := (((Bel.refl w).alloc _).alloc _).alloc _
  have hz : (((w.alloc (.cells #[.int .i64 n] 3)).alloc (.cells #[.int .i32 0] 21)).alloc (.cells #[.bool false] 4)).heap.size = w.heap.size + 3 := by simp
  generalize (((w.alloc (.cells #[.int .i64 n] 3)).alloc (.cells #[.int .i32 0] 21)).alloc (.cells #[.bool false] 4)) = W0 at b1 b2 b3 hB hz ⊢
  refine ⟨trivial, ?_⟩
  gi_at_call 14
  refine (callsIn_wide.2 (HL.out _ (HT.out.bel hB))).mono ?_
  rintro e Wz ⟨rfl, hb1⟩
  have HI0 : Hid (Inv n w.heap.size w [] Wz) := Lib.hid ⟨by simp, boxed_bel b1 hb1, boxed_bel b2 hb1, boxed_bel b3 hb1, hB.trans hb1⟩
  have HZ := Lib.hid (show w.heap.size + 3 ≤ Wz.heap.size by have := Below.size hb1; omega)
  clear b1 b2 b3 hB hz hb1
  gi_wp2_with fail
  have eq2 : w.heap.size + 2 = w.heap.size + 1 + 1 := rfl
  refine range_top enc2 (outW x.st x.fs) 0 0 (by decide) (by omega) rfl (enters_of Tryd.func15 (by kernel_rfl) rfl) (fun _ => rfl) (numbers_in x HX.out Wz)
    (Inv n w.heap.size w) (Fnd (outW x.st x.fs) n w.heap.size w) (fun pre W h => HT.out.bel h.2.2.2.2)
    (fun pre W W' h hc => h.tch hc (Nat.le_refl _) HZ.out (Nat.le_refl _)) (fun W W' h hc => h.tch hc (Nat.le_refl _) HZ.out (Nat.le_refl _)) HI0.out
    (fun y => { tmps := #[.int .i64 n, .pointer (some ⟨w.heap.size, 0, none⟩), .pointer (some ⟨w.heap.size + 1, 0, none⟩), .pointer (some ⟨w.heap.size + 1 + 1, 0, none⟩), .int .i64 y.1, .int .i32 y.2, .int .i64 n, .string ⟨x.l.toArray⟩,
      .func (.func 15) #[.string ⟨x.l.toArray⟩] #[], .int .i64 y.1, .int .i32 y.2, undef, undef, undef, undef], defers := [] }) ?assign ?body ?done ?stop
  case assign =>
    intro l y W K hK
    dsimp only [enc2]
    gi_wp2
    exact hK
  case body =>
    rintro l pre y W hl - ⟨hp, c1, c2, c3, hB⟩ hx
    rw [eq2] at c3
    have k1 := c1.cell
    have k2 := c2.cell
    have k3 := c3.cell
    have f2 := c2.frozen
    have f3 := c3.frozen
    have HC2 := Lib.hid c2
    have HC3 := Lib.hid c3
    have HC1 := Lib.hid c1
    have HB := Lib.hid hB
    have HXx := Lib.hid hx
    have HP := Lib.hid hp
    clear c1 c2 c3 hB hx hp hl
    gi_wp2
    · rename_i he
      have he' : y.1 = n := by simpa using he
      obtain ⟨rest, hr⟩ := HXx.out
      refine ⟨(Kep.cell _ ⟨w.heap.size + 1, 0, none⟩ _ (by show w.heap.size + 1 < Wz.heap.size; have := HZ.out; omega) (by omega)).trans (Kep.cell _ ⟨w.heap.size + 1 + 1, 0, none⟩ _ (by show w.heap.size + 1 + 1 < Wz.heap.size; have := HZ.out; omega) (by omega)), y.2, ?_, ?_, ?_, ?_⟩
      · exact look_hit (rest := rest) (by rw [hr, ← he']) HP.out
      · exact (HC2.out.set _).other (by omega) _
      · exact (HC3.out.other (by omega) _).set _
      · exact (Below.setCell HB.out (p := ⟨w.heap.size + 1, 0, none⟩) (by simp) _).setCell (p := ⟨w.heap.size + 1 + 1, 0, none⟩) (by simp; omega) _
    · rename_i he
      refine ⟨Kep.refl _ _ _ _, fun p hp => ?_, HC1.out, HC2.out, HC3.out, HB.out⟩
      rcases List.mem_append.1 hp with hp | hp
      · exact HP.out p hp
      · simp at hp
        subst hp
        simpa using he
  case done =>
    rintro W ⟨hp, c1, c2, c3, hB⟩ hK
    rw [eq2] at c3
    have k2 := c2.cell
    have k3 := c3.cell
    have f2 := c2.frozen
    have f3 := c3.frozen
    gi_wp2
    have hK' := ((KeepsOthers.setCell W ⟨w.heap.size + 1, 0, none⟩ (.int .i32 0)).trans (KeepsOthers.setCell _ ⟨w.heap.size + 1 + 1, 0, none⟩ (.bool false))).same _ _ hK rfl
    have d2 := boxed_put ((c2.set (.int .i32 0)).other (B' := w.heap.size + 1 + 1) (by omega) (.bool false)) (l := Wz.heap.size) (by have := HZ.out; omega) (.deferred none)
    have d3 := boxed_put ((c3.other (B' := w.heap.size + 1) (by omega) (.int .i32 0)).set (.bool false)) (l := Wz.heap.size) (by have := HZ.out; omega) (.deferred none)
    have e2 := d2.cell
    have e3 := d3.cell
    refine ⟨by simp, .inl ⟨_, _, rfl, run_takeDeferred hK', ?_⟩⟩
    rw [look_miss hp]
    refine ⟨.tuple #[.int .i32 0, .bool false], ?_, rfl, bel_put ((Below.setCell hB (p := ⟨w.heap.size + 1, 0, none⟩) (by simp) _).setCell (p := ⟨w.heap.size + 1 + 1, 0, none⟩) (by simp; omega) _) (by have := HZ.out; omega) _⟩
    simp [results, Tryd.f8, go_sem, e2, e3]
  case stop =>
    rintro W ⟨r, hr, c2, c3, hB⟩ hK
    rw [eq2] at c3
    have d2 := boxed_put c2 (l := Wz.heap.size) (by have := HZ.out; omega) (.deferred none)
    have d3 := boxed_put c3 (l := Wz.heap.size) (by have := HZ.out; omega) (.deferred none)
    have e2 := d2.cell
    have e3 := d3.cell
    gi_wp2
    refine ⟨by simp, .inl ⟨_, _, rfl, run_takeDeferred hK, ?_⟩⟩
    refine ⟨.tuple #[.int .i32 r, .bool true], ?_, rfl, bel_put hB (by have := HZ.out; omega) _⟩
    simp [results, Tryd.f8, go_sem, e2, e3]
end Go.Proofs.YtdjaacmaljcnhaaDoor.U
