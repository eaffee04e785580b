/- What Split of the program and Parts of the reference answer: a new list of a syllable's parts. No condition. -/
import Derived.Test.YtalabobiaahppaaLeaf
namespace Go.Proofs.Ytalabobiaahppaa.U
open Go.RowKit
set_option linter.unusedVariables false

theorem info21 : (Try.prog.info? 21).map (fun i => (i.zero, i.size, i.bytes)) = some (some (.int .i32 0), 1, 4) := by kernel_rfl
/-- A row of the call's own as a slice, its length a letter. -/
theorem Own.rdn {w : World} {base : Nat} {e : TypeId} {k : IntKind} {v : Value} {l : List Int} {n : Nat} (h : Own w base e k v l) (hn : l.length = n) :
    ∃ A cap, v = .slice A n cap ∧ n ≤ cap ∧ Rd w w.heap.size k A l ∧ (A = none → cap = 0) := by
  subst hn; exact h.rd
/-- A row that was just made. -/
theorem Own.lit (w : World) (e : TypeId) (k : IntKind) {cs : Array Value} {l : List Int} {n : Nat} (h : cs.toList = l.map (Value.int k)) (hn : l.length = n) (hm : n ≤ 1000) :
    Own (w.alloc (.cells cs e)) w.heap.size e k (.slice (some ⟨w.heap.size, 0, none⟩) n n) l := by
  subst hn
  have hs : cs.size = l.length := by rw [← Array.length_toList, h, List.length_map]
  refine ⟨by simp, .inr ⟨w.heap.size, l.length, cs, rfl, Nat.le_refl _, heap_alloc_new w _, Nat.le_refl _, ?_, by omega, ?_⟩⟩
  · simp only [maxLen]; omega
  · rw [Nat.mul_one, h, List.take_of_length_le (by simp)]

/-- A list that was just made, the block by its number. -/
theorem rd_lit_at {w : World} {cs : Array Value} {l : List Int} {k : IntKind} {t : TypeId} {n : Nat} (hn : w.heap.size = n) (h : cs.toList = l.map (Value.int k)) : Rd (w.alloc (.cells cs t)) (n + 1) k (some ⟨n, 0, none⟩) l := by
  subst hn; exact rd_lit h
/-- A new list of these numbers. -/
def Gives (w : World) (l : List Int) (n : Nat) (e : Ending) (w' : World) : Prop :=
  ∃ A cap, e = .returned (.slice A n cap) ∧ n ≤ cap ∧ Rd w' w'.heap.size .i32 A l ∧ (A = none → cap = 0) ∧ Bel w w'
theorem gives_of {w w' : World} {l : List Int} {n : Nat} {v : Value} (hn : l.length = n) (h : Own w' w.heap.size 21 .i32 v l) (hb : Bel w w') : Gives w l n (.returned v) w' := by
  obtain ⟨A, cap, rfl, h1, h2, h3⟩ := h.rdn hn
  exact ⟨A, cap, rfl, h1, h2, h3, hb⟩

theorem split_no (r : Int) (w : World) (h : r < 44032 ∨ 55204 ≤ r) : Calls Try.prog 8 #[.int .i32 r] w fun e w' => e = .returned (.slice none 0 0) ∧ w = w' := by
  have H := Lib.hid (decide_eq_false (p := 44032 ≤ r ∧ r < 55204) (by omega))
  clear h
  go_enter Try.func8, Try.ntmps8
  go_wp2_with (go_at_call 12; (with_reducible refine (syl_is _ false _ H.out).mono ?_); rintro e w' ⟨rfl, rfl⟩)
  go_ret
  exact ⟨rfl, rfl⟩

theorem split_two (r a b : Int) (w : World) (h0 : 44032 ≤ r) (h1 : r < 55204) (h : (r - 44032) % 28 = 0) (ha : 4352 + (r - 44032) / 588 = a) (hb : 4449 + (r - 44032) % 588 / 28 = b) :
    Calls Try.prog 8 #[.int .i32 r] w (Gives w [a, b] 2) := by
  have H := Lib.hid (decide_eq_true (p := 44032 ≤ r ∧ r < 55204) ⟨h0, h1⟩)
  have ht : ¬ 0 < (r - 44032) % 28 := by omega
  have HA := Lib.hid ha
  have HB := Lib.hid hb
  clear h ha hb
  go_enter Try.func8, Try.ntmps8
  go_wp2_with (go_at_call 12; (with_reducible refine (syl_is _ true _ H.out).mono ?_); rintro e w' ⟨rfl, rfl⟩)
  go_ret
  rw [HA.out, HB.out]
  exact gives_of rfl (Own.lit w 21 .i32 rfl rfl (by omega)) ((Bel.refl w).alloc _)

set_option maxHeartbeats 1000000 in
theorem split_three (r a b c : Int) (w : World) (h0 : 44032 ≤ r) (h1 : r < 55204) (h : 0 < (r - 44032) % 28) (ha : 4352 + (r - 44032) / 588 = a) (hb : 4449 + (r - 44032) % 588 / 28 = b) (hc : 4519 + (r - 44032) % 28 = c) :
    Calls Try.prog 8 #[.int .i32 r] w (Gives w [a, b, c] 3) := by
  obtain ⟨i0, hi0, hz0, hz1, hz2⟩ := info_parts info21
  have H := Lib.hid (decide_eq_true (p := 44032 ≤ r ∧ r < 55204) ⟨h0, h1⟩)
  have HA := Lib.hid ha
  have HB := Lib.hid hb
  have HC := Lib.hid hc
  have HR := Lib.hid (rd_lit_at (w := w.alloc (.cells #[.int .i32 (4352 + (r - 44032) / 588), .int .i32 (4449 + (r - 44032) % 588 / 28)] 21)) (cs := #[.int .i32 (4519 + (r - 44032) % 28)]) (t := 21) (k := .i32) (l := [c]) (n := w.heap.size + 1) (by simp) (by simp [hc]))
  have HO := Lib.hid ((Own.lit w 21 .i32 (cs := #[.int .i32 (4352 + (r - 44032) / 588), .int .i32 (4449 + (r - 44032) % 588 / 28)]) (l := [a, b]) (n := 2) (by simp [ha, hb]) rfl (by omega)).keep ((Bel.refl _).alloc (.cells #[.int .i32 (4519 + (r - 44032) % 28)] 21)))
  clear ha hb hc
  go_enter Try.func8, Try.ntmps8
  go_wp2_with (first
    | (go_at_call 12; (with_reducible refine (syl_is _ true _ H.out).mono ?_); rintro e w' ⟨rfl, rfl⟩)
    | (at_builtin; refine wpl_append (by rfl) (.tmp 23) (.tmp 26) 24 rfl Try.underlying24 hi0 hz0 hz1 hz2 rfl (by omega) HO.out rfl HR.out rfl rfl (fun e => by cases e) (by simp) (by simp; omega) ?_; intro v2 w2 hown2 hb2)
    | fail)
  go_ret
  exact gives_of rfl hown2 (Below.trans (((Bel.refl w).alloc _).alloc _) hb2)
end Go.Proofs.Ytalabobiaahppaa.U
