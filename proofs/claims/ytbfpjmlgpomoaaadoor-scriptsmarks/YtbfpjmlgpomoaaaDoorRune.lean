/- What scripts.list and scripts.Rune answer of the six sets and of any number: the character that the chapter's list has for it, or none. Tables as they are laid. -/
import Derived.Test.YtbfpjmlgpomoaaaDoorAnsel
namespace Go.Proofs.YtbfpjmlgpomoaaaDoor.U
open Go.RowKit Go.Shelf
set_option linter.unusedVariables false
attribute [local go_sem] Oper.semAt_some

theorem goodS {s : Nat} (hs : s < 6) : ∃ lns wds, Good (strAt Tryd.f16 (s + 1)) (tabS s) lns wds := by
  obtain rfl | rfl | rfl | rfl | rfl | rfl : s = 0 ∨ s = 1 ∨ s = 2 ∨ s = 3 ∨ s = 4 ∨ s = 5 := by omega
  · exact ⟨_, _, good3⟩
  · exact ⟨_, _, good4⟩
  · exact ⟨_, _, good5⟩
  · exact ⟨_, _, good6⟩
  · exact ⟨_, _, good7⟩
  · exact ⟨_, _, good8⟩
set_option maxRecDepth 100000 in
set_option maxHeartbeats 1000000 in
theorem list_is (s : Nat) (hs : s < 6) (w : World) : Calls Tryd.prog 16 #[.int .i64 (3 + (s : Int))] w fun e w' => e = .returned (.string (strAt Tryd.f16 (s + 1))) ∧ w' = w := by
  refine (callsIn_wide (n := 4)).1 ?_
  refine callsIn_of_wp Tryd.func16 body16 trivial ?_ rfl
  generalize posAt Tryd.f16 = p
  generalize strAt Tryd.f16 = Sx
  unfold code16
  simp only [Tryd.ntmps16, List.size_toArray, List.length_cons, List.length_nil, Nat.reduceAdd, Nat.reduceSub, Array.replicate_succ, Array.replicate_zero, List.push_toArray, List.append_toArray, List.nil_append, List.cons_append]
  obtain ⟨v, hv⟩ : ∃ v : Int, (3 : Int) + (s : Int) = v := ⟨_, rfl⟩
  rw [hv]
  have hc : (s = 0 ∧ v = 3) ∨ (s = 1 ∧ v = 4) ∨ (s = 2 ∧ v = 5) ∨ (s = 3 ∧ v = 6) ∨ (s = 4 ∧ v = 7) ∨ (s = 5 ∧ v = 8) := by omega
  clear hv hs
  obtain ⟨rfl, rfl⟩ | ⟨rfl, rfl⟩ | ⟨rfl, rfl⟩ | ⟨rfl, rfl⟩ | ⟨rfl, rfl⟩ | ⟨rfl, rfl⟩ := hc
  all_goals gi_wp2
  all_goals go_ret
  all_goals exact ⟨rfl, rfl⟩

set_option maxRecDepth 100000 in
set_option maxHeartbeats 2000000 in
theorem rune_is (s : Nat) (hs : s < 6) (n : Int) (w : World) (hT : Tz w) : Calls Tryd.prog 12 #[.int .i64 (3 + (s : Int)), .int .i64 n] w fun e w' => e = .returned (.tuple #[.int .i32 (look (tabS s) n).1, .bool (look (tabS s) n).2]) ∧ Bel w w' := by
  obtain ⟨lns, wds, hG⟩ := goodS hs
  have HL := Lib.hid (fun w => list_is s hs w)
  clear hs
  generalize strAt Tryd.f16 (s + 1) = S at hG HL
  generalize (3 : Int) + (s : Int) = sv at HL ⊢
  refine (callsIn_wide (n := 4)).1 ?_
  refine callsIn_of_wp_marks Tryd.func12 rfl trivial ?_ rfl
  generalize tabS s = tb at hG ⊢
  simp only [Tryd.ntmps12, List.size_toArray, List.length_cons, List.length_nil, Nat.reduceAdd, Nat.reduceSub, Array.replicate_succ, Array.replicate_zero, List.push_toArray, List.append_toArray, List.nil_append, List.cons_append]
  gi_wp2_with fail
  refine ⟨trivial, ?_⟩
  gi_at_call 16
  refine (callsIn_wide.2 (HL.out _)).mono ?_
  rintro e w1 ⟨rfl, rfl⟩
  gi_wp2_with fail
  have b1 : Boxed (((w.alloc (.cells #[.int .i64 n] 3)).alloc (.cells #[.int .i32 0] 21)).alloc (.cells #[.bool false] 4)) w.heap.size 3 (.int .i64 n) := ((Boxed.new w 3 _).alloc _).alloc _
  have b2 : Boxed (((w.alloc (.cells #[.int .i64 n] 3)).alloc (.cells #[.int .i32 0] 21)).alloc (.cells #[.bool false] 4)) (w.heap.size + 1) 21 (.int .i32 0) := by
    have h := (Boxed.new (w.alloc (.cells #[.int .i64 n] 3)) 21 (.int .i32 0)).alloc (.cells #[.bool false] 4)
    rwa [World.size_alloc] at h
  have b3 : Boxed (((w.alloc (.cells #[.int .i64 n] 3)).alloc (.cells #[.int .i32 0] 21)).alloc (.cells #[.bool false] 4)) (w.heap.size + 2) 4 (.bool false) := by
    have h := Boxed.new ((w.alloc (.cells #[.int .i64 n] 3)).alloc (.cells #[.int .i32 0] 21)) 4 (.bool false)
    rwa [World.size_alloc, World.size_alloc] at h
  have hB : Bel w (((w.alloc (.cells #[.int .i64 n] 3)).alloc (.cells #[.int .i32 0] 21)).alloc (.cells #[.bool false] 4)) := (((Bel.refl w).alloc _).alloc _).alloc _
  have hz : (((w.alloc (.cells #[.int .i64 n] 3)).alloc (.cells #[.int .i32 0] 21)).alloc (.cells #[.bool false] 4)).heap.size = w.heap.size + 3 := by simp
  generalize (((w.alloc (.cells #[.int .i64 n] 3)).alloc (.cells #[.int .i32 0] 21)).alloc (.cells #[.bool false] 4)) = Wz at b1 b2 b3 hB hz ⊢
  have HI0 := Lib.hid (⟨by simp, b1, b2, b3, hB⟩ : Inv n w.heap.size w [] Wz)
  have HZ := Lib.hid hz
  have HT := Lib.hid hT
  have HG := Lib.hid hG
  clear b1 b2 b3 hB hz hT hG
  have eq2 : w.heap.size + 2 = w.heap.size + 1 + 1 := rfl
  refine range_bound tb (by decide) rfl (enters_of Tryd.func14 (by kernel_rfl) rfl) rfl (Inv n w.heap.size w) (Fnd tb n w.heap.size w)
    (fun pre W o h => h.put (by have := HZ.out; omega) (by have := HZ.out; omega) o) (fun W o h => h.put (by have := HZ.out; omega) (by have := HZ.out; omega) o) (fun pre W W' h hb => h.bel hb) HI0.out
    (fun x => { tmps := #[.int .i64 sv, .int .i64 n, undef, .pointer (some ⟨w.heap.size, 0, none⟩), .pointer (some ⟨w.heap.size + 1, 0, none⟩), .pointer (some ⟨w.heap.size + 1 + 1, 0, none⟩), .int .i64 x.1, .int .i32 x.2, .int .i64 sv, .string S, .func (.func 14) #[.string S] #[], .int .i64 x.1, .int .i32 x.2, undef, undef, undef, undef], defers := [] }) ?assign ?body ?it ?done ?stop
  case assign =>
    intro l x W K hK
    gi_wp2
    exact hK
  case it =>
    intro J Jx hJI hJb hY W hl hj
    exact numbers_in 3 _ (by decide) w HT.out S tb _ _ HG.out J Jx (fun pre W h => (hJI pre W h).2.2.2.2) hJb hY W hl hj
  case body =>
    rintro l pre x W ⟨hp, c1, c2, c3, hB⟩ hx
    rw [eq2] at c3
    have k1 := c1.cell
    have k2 := c2.cell
    have k3 := c3.cell
    have f2 := c2.frozen
    have f3 := c3.frozen
    have HC2 := Lib.hid c2
    have HC3 := Lib.hid c3
    have HC1 := Lib.hid c1
    have HB := Lib.hid hB
    have HX := Lib.hid hx
    have HP := Lib.hid hp
    clear c1 c2 c3 hB hx hp
    gi_wp2
    · rename_i he
      have he' : x.1 = n := by simpa using he
      obtain ⟨rest, hr⟩ := HX.out
      refine ⟨(KeepsOthers.setCell _ _ _).trans (KeepsOthers.setCell _ _ _), x.2, ?_, ?_, ?_, ?_⟩
      · exact look_hit (rest := rest) (by rw [hr, ← he']) HP.out
      · exact (HC2.out.set _).other (by omega) _
      · exact (HC3.out.other (by omega) _).set _
      · exact (Below.setCell HB.out (p := ⟨w.heap.size + 1, 0, none⟩) (by simp) _).setCell (p := ⟨w.heap.size + 1 + 1, 0, none⟩) (by simp; omega) _
    · rename_i he
      refine ⟨rfl, fun p hp => ?_, HC1.out, HC2.out, HC3.out, HB.out⟩
      rcases List.mem_append.1 hp with hp | hp
      · exact HP.out p hp
      · simp at hp
        subst hp
        simpa using he
  case done =>
    rintro W ⟨hp, c1, c2, c3, hB⟩ hK
    rw [eq2] at c3
    have k2 := c2.cell
    have k3 := c3.cell
    have f2 := c2.frozen
    have f3 := c3.frozen
    gi_wp2
    have hK' := ((KeepsOthers.setCell W ⟨w.heap.size + 1, 0, none⟩ (.int .i32 0)).trans (KeepsOthers.setCell _ ⟨w.heap.size + 1 + 1, 0, none⟩ (.bool false))).same _ _ hK rfl
    have d2 := boxed_put ((c2.set (.int .i32 0)).other (B' := w.heap.size + 1 + 1) (by omega) (.bool false)) (l := Wz.heap.size) (by have := HZ.out; omega) (.deferred none)
    have d3 := boxed_put ((c3.other (B' := w.heap.size + 1) (by omega) (.int .i32 0)).set (.bool false)) (l := Wz.heap.size) (by have := HZ.out; omega) (.deferred none)
    have e2 := d2.cell
    have e3 := d3.cell
    refine ⟨by simp, .inl ⟨_, _, rfl, run_takeDeferred hK', ?_⟩⟩
    rw [look_miss hp]
    refine ⟨.tuple #[.int .i32 0, .bool false], ?_, rfl, bel_put ((Below.setCell hB (p := ⟨w.heap.size + 1, 0, none⟩) (by simp) _).setCell (p := ⟨w.heap.size + 1 + 1, 0, none⟩) (by simp; omega) _) (by have := HZ.out; omega) _⟩
    simp [results, Tryd.f12, go_sem, e2, e3]
  case stop =>
    rintro W ⟨r, hr, c2, c3, hB⟩ hK
    rw [eq2] at c3
    have d2 := boxed_put c2 (l := Wz.heap.size) (by have := HZ.out; omega) (.deferred none)
    have d3 := boxed_put c3 (l := Wz.heap.size) (by have := HZ.out; omega) (.deferred none)
    have e2 := d2.cell
    have e3 := d3.cell
    gi_wp2
    refine ⟨by simp, .inl ⟨_, _, rfl, run_takeDeferred hK, ?_⟩⟩
    refine ⟨.tuple #[.int .i32 r, .bool true], ?_, rfl, bel_put hB (by have := HZ.out; omega) _⟩
    simp [results, Tryd.f12, go_sem, e2, e3]
end Go.Proofs.YtbfpjmlgpomoaaaDoor.U
