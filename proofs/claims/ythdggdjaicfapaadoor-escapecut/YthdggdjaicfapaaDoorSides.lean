/- What Final, Sides and Default of package sets answer; what slices.Index and slices.Contains answer at numbers. Final: where the table of last bytes lies in its variable. -/
import Derived.Test.YthdggdjaicfapaaDoorLeaf
namespace Go.Proofs.YthdggdjaicfapaaDoor.U
open Go.RowKit
set_option linter.unusedVariables false

set_option maxHeartbeats 1000000 in
theorem final_yes (s z : Int) (w : World) (hT : Tb w) (h0 : 1 ≤ s) (h1 : s ≤ 12) (hz : lastB s = z) : Calls Tryd.prog 37 #[.int .i64 s] w fun e w' => e = .returned (.tuple #[.int .u8 z, .bool true]) ∧ w = w' := by
  subst hz
  have H := Lib.hid (decide_eq_true (p := 1 ≤ s ∧ s ≤ 12) ⟨h0, h1⟩)
  have : s = 1 ∨ s = 2 ∨ s = 3 ∨ s = 4 ∨ s = 5 ∨ s = 6 ∨ s = 7 ∨ s = 8 ∨ s = 9 ∨ s = 10 ∨ s = 11 ∨ s = 12 := by omega
  clear h0 h1
  rcases this with rfl | rfl | rfl | rfl | rfl | rfl | rfl | rfl | rfl | rfl | rfl | rfl
  · have hc : w.cell? ⟨0, 1, none⟩ = some (.string ⟨#[66]⟩) := hT 1 _ rfl
    clear hT
    go_enter Tryd.func37, Tryd.ntmps37
    go_wp2_with (go_at_call 34; (with_reducible refine (is_is _ true _ H.out).mono ?_); rintro e w' ⟨rfl, rfl⟩)
    go_ret2
    exact ⟨rfl, rfl⟩
  · have hc : w.cell? ⟨0, 2, none⟩ = some (.string ⟨#[33, 69]⟩) := hT 2 _ rfl
    clear hT
    go_enter Tryd.func37, Tryd.ntmps37
    go_wp2_with (go_at_call 34; (with_reducible refine (is_is _ true _ H.out).mono ?_); rintro e w' ⟨rfl, rfl⟩)
    go_ret2
    exact ⟨rfl, rfl⟩
  · have hc : w.cell? ⟨0, 3, none⟩ = some (.string ⟨#[83]⟩) := hT 3 _ rfl
    clear hT
    go_enter Tryd.func37, Tryd.ntmps37
    go_wp2_with (go_at_call 34; (with_reducible refine (is_is _ true _ H.out).mono ?_); rintro e w' ⟨rfl, rfl⟩)
    go_ret2
    exact ⟨rfl, rfl⟩
  · have hc : w.cell? ⟨0, 4, none⟩ = some (.string ⟨#[50]⟩) := hT 4 _ rfl
    clear hT
    go_enter Tryd.func37, Tryd.ntmps37
    go_wp2_with (go_at_call 34; (with_reducible refine (is_is _ true _ H.out).mono ?_); rintro e w' ⟨rfl, rfl⟩)
    go_ret2
    exact ⟨rfl, rfl⟩
  · have hc : w.cell? ⟨0, 5, none⟩ = some (.string ⟨#[51]⟩) := hT 5 _ rfl
    clear hT
    go_enter Tryd.func37, Tryd.ntmps37
    go_wp2_with (go_at_call 34; (with_reducible refine (is_is _ true _ H.out).mono ?_); rintro e w' ⟨rfl, rfl⟩)
    go_ret2
    exact ⟨rfl, rfl⟩
  · have hc : w.cell? ⟨0, 6, none⟩ = some (.string ⟨#[52]⟩) := hT 6 _ rfl
    clear hT
    go_enter Tryd.func37, Tryd.ntmps37
    go_wp2_with (go_at_call 34; (with_reducible refine (is_is _ true _ H.out).mono ?_); rintro e w' ⟨rfl, rfl⟩)
    go_ret2
    exact ⟨rfl, rfl⟩
  · have hc : w.cell? ⟨0, 7, none⟩ = some (.string ⟨#[78]⟩) := hT 7 _ rfl
    clear hT
    go_enter Tryd.func37, Tryd.ntmps37
    go_wp2_with (go_at_call 34; (with_reducible refine (is_is _ true _ H.out).mono ?_); rintro e w' ⟨rfl, rfl⟩)
    go_ret2
    exact ⟨rfl, rfl⟩
  · have hc : w.cell? ⟨0, 8, none⟩ = some (.string ⟨#[81]⟩) := hT 8 _ rfl
    clear hT
    go_enter Tryd.func37, Tryd.ntmps37
    go_wp2_with (go_at_call 34; (with_reducible refine (is_is _ true _ H.out).mono ?_); rintro e w' ⟨rfl, rfl⟩)
    go_ret2
    exact ⟨rfl, rfl⟩
  · have hc : w.cell? ⟨0, 9, none⟩ = some (.string ⟨#[49]⟩) := hT 9 _ rfl
    clear hT
    go_enter Tryd.func37, Tryd.ntmps37
    go_wp2_with (go_at_call 34; (with_reducible refine (is_is _ true _ H.out).mono ?_); rintro e w' ⟨rfl, rfl⟩)
    go_ret2
    exact ⟨rfl, rfl⟩
  · have hc : w.cell? ⟨0, 10, none⟩ = some (.string ⟨#[98]⟩) := hT 10 _ rfl
    clear hT
    go_enter Tryd.func37, Tryd.ntmps37
    go_wp2_with (go_at_call 34; (with_reducible refine (is_is _ true _ H.out).mono ?_); rintro e w' ⟨rfl, rfl⟩)
    go_ret2
    exact ⟨rfl, rfl⟩
  · have hc : w.cell? ⟨0, 11, none⟩ = some (.string ⟨#[112]⟩) := hT 11 _ rfl
    clear hT
    go_enter Tryd.func37, Tryd.ntmps37
    go_wp2_with (go_at_call 34; (with_reducible refine (is_is _ true _ H.out).mono ?_); rintro e w' ⟨rfl, rfl⟩)
    go_ret2
    exact ⟨rfl, rfl⟩
  · have hc : w.cell? ⟨0, 12, none⟩ = some (.string ⟨#[103]⟩) := hT 12 _ rfl
    clear hT
    go_enter Tryd.func37, Tryd.ntmps37
    go_wp2_with (go_at_call 34; (with_reducible refine (is_is _ true _ H.out).mono ?_); rintro e w' ⟨rfl, rfl⟩)
    go_ret2
    exact ⟨rfl, rfl⟩

/-- A new list of these numbers. -/
def Gives (w : World) (k : IntKind) (l : List Int) (n : Nat) (e : Ending) (w' : World) : Prop :=
  ∃ g cap, e = .returned (.slice (some ⟨g, 0, none⟩) n cap) ∧ n ≤ cap ∧ Rd w' w'.heap.size k (some ⟨g, 0, none⟩) l ∧ Bel w w'
/-- A row that was just made. -/
theorem Own.lit (w : World) (e : TypeId) (k : IntKind) {cs : Array Value} {l : List Int} {n : Nat} (h : cs.toList = l.map (Value.int k)) (hn : l.length = n) (hm : n ≤ 1000) :
    Own (w.alloc (.cells cs e)) w.heap.size e k (.slice (some ⟨w.heap.size, 0, none⟩) n n) l := by
  subst hn
  have hs : cs.size = l.length := by rw [← Array.length_toList, h, List.length_map]
  refine ⟨by simp, .inr ⟨w.heap.size, l.length, cs, rfl, Nat.le_refl _, heap_alloc_new w _, Nat.le_refl _, ?_, by omega, ?_⟩⟩
  · simp only [maxLen]; omega
  · rw [Nat.mul_one, h, List.take_of_length_le (by simp)]
theorem rd_lit {w : World} {cs : Array Value} {l : List Int} {k : IntKind} {t : TypeId} (h : cs.toList = l.map (Value.int k)) : Rd (w.alloc (.cells cs t)) (w.heap.size + 1) k (some ⟨w.heap.size, 0, none⟩) l := fun i x hx => by
  refine ⟨w.heap.size, 0, rfl, by omega, ?_⟩
  have e : cs = (l.map (Value.int k)).toArray := by rw [← h]
  have h1 := World.cell?_alloc_mark w cs t (0, 0) i
  rw [Nat.zero_add]
  refine h1.trans ?_
  rw [e]
  simp [hx]

theorem sides_no (s : Int) (w : World) (h : ¬ (1 ≤ s ∧ s ≤ 12)) : Calls Tryd.prog 26 #[.int .i64 s] w fun e w' => e = .returned (.slice none 0 0) ∧ w = w' := by
  have H := Lib.hid (decide_eq_false h)
  clear h
  go_enter Tryd.func26, Tryd.ntmps26
  go_wp2_with (go_at_call 34; (with_reducible refine (is_is _ false _ H.out).mono ?_); rintro e w' ⟨rfl, rfl⟩)
  go_ret
  exact ⟨rfl, rfl⟩
theorem sides_one (s : Int) (w : World) (h0 : 10 ≤ s) (h1 : s ≤ 12) : Calls Tryd.prog 26 #[.int .i64 s] w (Gives w .i64 [0] 1) := by
  have H := Lib.hid (decide_eq_true (p := 1 ≤ s ∧ s ≤ 12) (by omega))
  have H1 := Lib.hid (decide_eq_true (p := 10 ≤ s ∧ s ≤ 12) (by omega))
  clear h0 h1
  go_enter Tryd.func26, Tryd.ntmps26
  go_wp2_with (first
    | (go_at_call 34; (with_reducible refine (is_is _ true _ H.out).mono ?_); rintro e w' ⟨rfl, rfl⟩)
    | (go_at_call 35; (with_reducible refine (alone_is _ true _ H1.out).mono ?_); rintro e w' ⟨rfl, rfl⟩))
  go_ret
  exact ⟨w.heap.size, 1, rfl, by omega, (rd_lit (l := [0]) rfl).here, (Bel.refl w).alloc _⟩
theorem sides_two (s : Int) (w : World) (h0 : 1 ≤ s) (h1 : s < 10) : Calls Tryd.prog 26 #[.int .i64 s] w (Gives w .i64 [0, 1] 2) := by
  have H := Lib.hid (decide_eq_true (p := 1 ≤ s ∧ s ≤ 12) (by omega))
  have H1 := Lib.hid (decide_eq_false (p := 10 ≤ s ∧ s ≤ 12) (by omega))
  clear h0 h1
  go_enter Tryd.func26, Tryd.ntmps26
  go_wp2_with (first
    | (go_at_call 34; (with_reducible refine (is_is _ true _ H.out).mono ?_); rintro e w' ⟨rfl, rfl⟩)
    | (go_at_call 35; (with_reducible refine (alone_is _ false _ H1.out).mono ?_); rintro e w' ⟨rfl, rfl⟩))
  go_ret
  exact ⟨w.heap.size, 2, rfl, by omega, (rd_lit (l := [0, 1]) rfl).here, (Bel.refl w).alloc _⟩

def IdxRel (W : World) (l : List Int) (x : Int) (i : Value) (w : World) : Prop :=
  ∃ k : Nat, i = .int .i64 k ∧ k ≤ l.length ∧ w = W ∧ ∀ j y, j < k → l[j]? = some y → y ≠ x
def IdxPost (w : World) (b : Bool) (e : Ending) (w' : World) : Prop := ∃ r : Int, e = .returned (.int .i64 r) ∧ w' = w ∧ decide (0 ≤ r) = b

set_option maxHeartbeats 1000000 in
theorem index_is (A : Option Addr) (n c : Nat) (l : List Int) (x : Int) (b : Bool) (B : Nat) (w : World) (hA : Rd w B .i64 A l) (hn : l.length = n) (hn' : n ≤ 1000) (hb : decide (x ∈ l) = b) :
    Calls Tryd.prog 33 #[.slice A n c, .int .i64 x] w (IdxPost w b) := by
  subst hb
  have HN := Lib.hid hn
  have HA := Lib.hid hA
  clear hn hA
  go_enter Tryd.func33, Tryd.ntmps33
  go_wp2
  go_loopw [8] (fun i wr => IdxRel w l x i wr) (fun i _ => n - (intOf i).toNat)
  case atStart => exact ⟨0, rfl, Nat.zero_le _, rfl, by omega⟩
  case round =>
    obtain ⟨k, rfl, hk, rfl, hne⟩ := hrel
    rw [HN.out] at hk
    have HE := Lib.hid hne
    clear hne
    by_cases hlt : k < n
    · obtain ⟨y, hy⟩ : ∃ y, l[k]? = some y := ⟨l[k]'(by rw [HN.out]; exact hlt), by simp⟩
      obtain ⟨g1, o1, rfl, hg1, hc1⟩ := HA.out k y hy
      have HY := Lib.hid hy
      clear hy
      have hi1 : (0 : Int) ≤ (k : Int) := by omega
      have hi2 : (k : Int) < (n : Int) := by omega
      by_cases hxy : x = y
      · subst hxy
        have hq : (x == x) = true := by simp
        go_wp2
        go_ret
        refine ⟨k, rfl, rfl, ?_⟩
        rw [decide_eq_true (List.mem_of_getElem? HY.out)]
        simp
      · have hq : (x == y) = false := by simpa using hxy
        go_wp2
        go_roundw
        case rel =>
          refine ⟨k + 1, by go_num, by rw [HN.out]; omega, rfl, fun j z hj hz => ?_⟩
          rcases Nat.lt_or_eq_of_le (Nat.le_of_lt_succ hj) with h | rfl
          · exact HE.out j z h hz
          · obtain rfl := Option.some.inj (HY.out.symm.trans hz)
            exact fun e => hxy e.symm
        case measure => simp [intOf]; omega
    · have hx : decide (x ∈ l) = false := by
        rw [decide_eq_false_iff_not]
        intro hm
        obtain ⟨j, hj⟩ := List.getElem?_of_mem hm
        have := (List.getElem?_eq_some_iff.1 hj).1
        rw [HN.out] at this
        exact HE.out j x (by omega) hj rfl
      have hx := Lib.hid hx
      go_wp2
      go_ret
      exact ⟨-1, rfl, rfl, by rw [hx.out]; rfl⟩

theorem contains_is (A : Option Addr) (n c : Nat) (l : List Int) (x : Int) (b : Bool) (B : Nat) (w : World) (hA : Rd w B .i64 A l) (hn : l.length = n) (hn' : n ≤ 1000) (hb : decide (x ∈ l) = b) :
    Calls Tryd.prog 25 #[.slice A n c, .int .i64 x] w fun e w' => e = .returned (.bool b) ∧ w' = w := by
  go_enter Tryd.func25, Tryd.ntmps25
  go_wp2_with fail
  refine (index_is A n c l x b B w hA hn hn' hb).mono ?_
  rintro e w' ⟨r, rfl, rfl, hr⟩
  clear hA hn hb
  by_cases h : 0 ≤ r
  · rw [decide_eq_true h] at hr
    subst hr
    go_wp2
    go_ret
    exact ⟨rfl, rfl⟩
  · rw [decide_eq_false h] at hr
    subst hr
    go_wp2
    go_ret
    exact ⟨ret_bool (by simp; omega), rfl⟩
end Go.Proofs.YthdggdjaicfapaaDoor.U
