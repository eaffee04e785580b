/- What small.sign, raised, greek and Rune answer, of the three sets and any number: what the chapter tells. No condition. What each set's numbers tell, all sets together. Plain mathematics. What glyph.Rune answers of any code of the twelve sets. Tables as they are laid. What glyph's functions ask of the listed variables; glyph.Size; glyph.row and glyph.every. glyph.compare: by sets, then numbers. A region that draws its order, by an invariant: what holds of whatever set of operations is done; each operation once. No program is named here. glyph.compare: by sets, then numbers. Its one statement by an invariant of what is done. Maps that never leave the call, whatever their elements: what a map holds, as a list; a store, a look-up, a range over it. -/
import Derived.Test.YtipigfgnpfhdbaaGreatDoorChecked
import Derived.WalkKit
import Derived.Below
import Derived.Lib.Hide
import Derived.OpenShut
import Derived.Test.YtipigfgnpfhdbaaGreatDoorM1
import Derived.Test.YtipigfgnpfhdbaaGreatDoorM3
import Derived.Test.YtipigfgnpfhdbaaGreatDoorM2
import Derived.Orders
import Derived.BigFrame
import Derived.Sort.Grow
import Derived.Maps.RangeWalk
import Derived.Maps.AppendAt
namespace Go.Proofs.YtipigfgnpfhdbaaGreatDoor.S
open Go.RowKit

/-- A sign that stands behind the zero z. -/
def sg (z n : Int) : Int × Bool :=
  if 48 ≤ n ∧ n ≤ 57 then (z + (n - 48), true)
  else if n = 43 then (z + 10, true)
  else if n = 45 then (z + 11, true)
  else if n = 40 then (z + 13, true)
  else if n = 41 then (z + 14, true)
  else (0, false)

/-- A superscript. -/
def up (n : Int) : Int × Bool :=
  if n = 49 then (185, true) else if n = 50 then (178, true) else if n = 51 then (179, true) else sg 8304 n

/-- A Greek symbol. -/
def gr (n : Int) : Int × Bool :=
  if n = 97 then (945, true) else if n = 98 then (946, true) else if n = 99 then (947, true) else (0, false)

/-- Each set's. -/
def ru (s n : Int) : Int × Bool := if s = 10 then sg 8320 n else if s = 11 then up n else gr n

theorem ret_pair {a : Int} {b : Bool} {p : Int × Bool} (h : p = (a, b)) : Ending.returned (.tuple #[.int .i32 a, .bool b]) = .returned (.tuple #[.int .i32 p.1, .bool p.2]) := by rw [h]

set_option maxHeartbeats 1000000 in
theorem sign_sub (n : Int) (w : World) : Calls Tryz.prog 96 #[.int .i32 8320, .int .i64 n] w fun e w' => e = .returned (.tuple #[.int .i32 (sg 8320 n).1, .bool (sg 8320 n).2]) ∧ w' = w := by
  go_enter Tryz.func96, Tryz.ntmps96
  go_wp2
  all_goals go_ret2
  all_goals refine ⟨ret_pair ?_, rfl⟩
  all_goals simp only [beq_iff_eq, beq_eq_false_iff_ne, ne_eq] at *
  all_goals (unfold sg; (repeat' split) <;> first | rfl | omega | (subst_vars; decide +kernel))

set_option maxHeartbeats 1000000 in
theorem sign_sup (n : Int) (w : World) : Calls Tryz.prog 96 #[.int .i32 8304, .int .i64 n] w fun e w' => e = .returned (.tuple #[.int .i32 (sg 8304 n).1, .bool (sg 8304 n).2]) ∧ w' = w := by
  go_enter Tryz.func96, Tryz.ntmps96
  go_wp2
  all_goals go_ret2
  all_goals refine ⟨ret_pair ?_, rfl⟩
  all_goals simp only [beq_iff_eq, beq_eq_false_iff_ne, ne_eq] at *
  all_goals (unfold sg; (repeat' split) <;> first | rfl | omega | (subst_vars; decide +kernel))

theorem raised_any (n : Int) (w : World) : Calls Tryz.prog 97 #[.int .i64 n] w fun e w' => e = .returned (.tuple #[.int .i32 (up n).1, .bool (up n).2]) ∧ w' = w := by
  obtain ⟨p, hp⟩ : ∃ p, sg 8304 n = p := ⟨_, rfl⟩
  have hs : ∀ w, Calls Tryz.prog 96 #[.int .i32 8304, .int .i64 n] w fun e w' => e = .returned (.tuple #[.int .i32 p.1, .bool p.2]) ∧ w' = w := fun w => by have := sign_sup n w; rwa [hp] at this
  have HS := Lib.hid hs
  have HP := Lib.hid hp
  clear hs hp
  go_enter Tryz.func97, Tryz.ntmps97
  go_wp2_with (go_at_call 96; (with_reducible refine (HS.out _).mono ?_); rintro e w' ⟨rfl, rfl⟩)
  all_goals go_ret2
  all_goals refine ⟨ret_pair ?_, rfl⟩
  all_goals simp only [beq_iff_eq, beq_eq_false_iff_ne, ne_eq] at *
  all_goals (unfold up; (repeat' split) <;> first | rfl | omega | exact HP.out)

theorem greek_any (n : Int) (w : World) : Calls Tryz.prog 98 #[.int .i64 n] w fun e w' => e = .returned (.tuple #[.int .i32 (gr n).1, .bool (gr n).2]) ∧ w' = w := by
  go_enter Tryz.func98, Tryz.ntmps98
  go_wp2
  all_goals go_ret2
  all_goals refine ⟨ret_pair ?_, rfl⟩
  all_goals simp only [beq_iff_eq, beq_eq_false_iff_ne, ne_eq] at *
  all_goals (unfold gr; (repeat' split) <;> first | rfl | omega)

theorem rune_is (s n r : Int) (b : Bool) (hs : s = 10 ∨ s = 11 ∨ s = 12) (h : ru s n = (r, b)) (w : World) : Calls Tryz.prog 58 #[.int .i64 s, .int .i64 n] w fun e w' => e = .returned (.tuple #[.int .i32 r, .bool b]) ∧ w' = w := by
  obtain rfl | rfl | rfl := hs
  · have h1 : sg 8320 n = (r, b) := h
    have HS : RowKit.Hid (∀ w, Calls Tryz.prog 96 #[.int .i32 8320, .int .i64 n] w fun e w' => e = .returned (.tuple #[.int .i32 r, .bool b]) ∧ w' = w) := Lib.hid fun w => by have := sign_sub n w; rwa [h1] at this
    clear h h1
    go_enter Tryz.func58, Tryz.ntmps58
    go_wp2_with (go_at_call 96; (with_reducible refine (HS.out _).mono ?_); rintro e w' ⟨rfl, rfl⟩)
    go_ret2
    exact ⟨rfl, rfl⟩
  · have h1 : up n = (r, b) := h
    have HS : RowKit.Hid (∀ w, Calls Tryz.prog 97 #[.int .i64 n] w fun e w' => e = .returned (.tuple #[.int .i32 r, .bool b]) ∧ w' = w) := Lib.hid fun w => by have := raised_any n w; rwa [h1] at this
    clear h h1
    go_enter Tryz.func58, Tryz.ntmps58
    go_wp2_with (go_at_call 97; (with_reducible refine (HS.out _).mono ?_); rintro e w' ⟨rfl, rfl⟩)
    go_ret2
    exact ⟨rfl, rfl⟩
  · have h1 : gr n = (r, b) := h
    have HS : RowKit.Hid (∀ w, Calls Tryz.prog 98 #[.int .i64 n] w fun e w' => e = .returned (.tuple #[.int .i32 r, .bool b]) ∧ w' = w) := Lib.hid fun w => by have := greek_any n w; rwa [h1] at this
    clear h h1
    go_enter Tryz.func58, Tryz.ntmps58
    go_wp2_with (go_at_call 98; (with_reducible refine (HS.out _).mono ?_); rintro e w' ⟨rfl, rfl⟩)
    go_ret2
    exact ⟨rfl, rfl⟩

end Go.Proofs.YtipigfgnpfhdbaaGreatDoor.S
namespace Go.Proofs.YtipigfgnpfhdbaaGreatDoor.G
open U
set_option linter.unusedVariables false

/-- A number of Basic. -/
def bas (n : Int) : Int × Bool := if 33 ≤ n ∧ n ≤ 126 then (n, true) else (0, false)
/-- The character of a code, and whether it has one. -/
def cr (s n : Int) : Int × Bool :=
  if s = 1 then bas n else if s = 2 then U.look tabA n else if s = 9 then E.runeL n else if s = 10 ∨ s = 11 ∨ s = 12 then S.ru s n else U.look (tabS (s - 3).toNat) n
theorem cr_1 (n : Int) : cr 1 n = bas n := rfl
theorem cr_2 (n : Int) : cr 2 n = U.look tabA n := rfl
theorem cr_9 (n : Int) : cr 9 n = E.runeL n := rfl
theorem cr_small (s n : Int) (h : s = 10 ∨ s = 11 ∨ s = 12) : cr s n = S.ru s n := by
  unfold cr
  rw [if_neg (by omega), if_neg (by omega), if_neg (by omega), if_pos h]
theorem cr_scripts (k : Nat) (n : Int) (h : k < 6) : cr (3 + (k : Int)) n = U.look (tabS k) n := by
  unfold cr
  rw [if_neg (by omega), if_neg (by omega), if_neg (by omega), if_neg (by omega)]
  congr 2
  omega
end Go.Proofs.YtipigfgnpfhdbaaGreatDoor.G
namespace Go.Proofs.YtipigfgnpfhdbaaGreatDoor.G
open Go.RowKit U
set_option linter.unusedVariables false

theorem basic_yes (n : Int) (w : World) (h0 : 33 ≤ n) (h1 : n ≤ 126) : Calls Tryz.prog 55 #[.int .i64 n] w fun e w' => e = .returned (.tuple #[.int .i32 n, .bool true]) ∧ w' = w := by
  go_enter Tryz.func55, Tryz.ntmps55
  go_wp2
  go_ret2
  exact ⟨rfl, rfl⟩
theorem basic_no (n : Int) (w : World) (h : n < 33 ∨ 126 < n) : Calls Tryz.prog 55 #[.int .i64 n] w fun e w' => e = .returned (.tuple #[.int .i32 0, .bool false]) ∧ w' = w := by
  rcases h with h | h
  · go_enter Tryz.func55, Tryz.ntmps55
    go_wp2
    go_ret2
    exact ⟨rfl, rfl⟩
  · have h' : ¬ n < 33 := by omega
    go_enter Tryz.func55, Tryz.ntmps55
    go_wp2
    go_ret2
    exact ⟨rfl, rfl⟩
theorem basic_is (n : Int) (w : World) : Calls Tryz.prog 55 #[.int .i64 n] w fun e w' => e = .returned (.tuple #[.int .i32 (bas n).1, .bool (bas n).2]) ∧ w' = w := by
  unfold bas
  by_cases h : 33 ≤ n ∧ n ≤ 126
  · rw [if_pos h]
    exact basic_yes n w h.1 h.2
  · rw [if_neg h]
    exact basic_no n w (by omega)

theorem cells_two (w : World) (a b : Int) : (w.alloc (.cells #[.int .i64 a, .int .i64 b] 30)).cell? ⟨w.heap.size, 0, none⟩ = some (.int .i64 a) ∧ (w.alloc (.cells #[.int .i64 a, .int .i64 b] 30)).cell? ⟨w.heap.size, 1, none⟩ = some (.int .i64 b) :=
  ⟨(World.cell?_alloc_mark w #[.int .i64 a, .int .i64 b] 30 (0, 0) 0).trans rfl, (World.cell?_alloc_mark w #[.int .i64 a, .int .i64 b] 30 (0, 0) 1).trans rfl⟩
def RunePost (r : Int) (b : Bool) (w : World) (e : Ending) (w' : World) : Prop := e = .returned (.tuple #[.int .i32 r, .bool b]) ∧ Bel w w'
set_option maxHeartbeats 4000000 in
theorem rune_at (s n r : Int) (b : Bool) (hs : 1 ≤ s ∧ s ≤ 12) (hn : n ≤ 9223372036854775807) (hc : cr s n = (r, b)) (w : World) (hT : Tz w) :
    Calls Tryz.prog 34 #[.agg #[.int .i64 s, .int .i64 n]] w (RunePost r b w) := by
  have HT := Lib.hid hT
  have hb0 : Bel w (w.alloc (.cells #[.int .i64 s, .int .i64 n] 30)) := (Bel.refl w).alloc _
  have HB0 := Lib.hid hb0
  have c0 := cells_two w s n
  obtain ⟨c0, c1⟩ := c0
  obtain rfl | rfl | h3 | rfl | h10 : s = 1 ∨ s = 2 ∨ (3 ≤ s ∧ s ≤ 8) ∨ s = 9 ∨ (s = 10 ∨ s = 11 ∨ s = 12) := by omega
  · rw [cr_1] at hc
    have HC := Lib.hid (fun w => by have := basic_is n w; rwa [hc] at this : ∀ w, Calls Tryz.prog 55 #[.int .i64 n] w fun e w' => e = .returned (.tuple #[.int .i32 r, .bool b]) ∧ w' = w)
    clear hc hs hn hT hb0
    go_enter Tryz.func34, Tryz.ntmps34
    go_wp2_with (go_at_call 55; (with_reducible refine (HC.out _).mono ?_); rintro e w1 ⟨rfl, rfl⟩)
    go_ret2
    exact ⟨rfl, HB0.out⟩
  · rw [cr_2] at hc
    have HC := Lib.hid (fun w h => by have := ansel_is n hn w h; rwa [hc] at this : ∀ w, Tz w → Calls Tryz.prog 56 #[.int .i64 n] w fun e w' => e = .returned (.tuple #[.int .i32 r, .bool b]) ∧ Bel w w')
    clear hc hs hn hT hb0
    go_enter Tryz.func34, Tryz.ntmps34
    go_wp2_with (go_at_call 56; (with_reducible refine (HC.out _ (HT.out.bel HB0.out)).mono ?_); rintro e w1 ⟨rfl, hb1⟩)
    go_ret2
    exact ⟨rfl, HB0.out.trans hb1⟩
  · obtain ⟨k, hk, hk6⟩ : ∃ k : Nat, s = 3 + (k : Int) ∧ k < 6 := ⟨(s - 3).toNat, by omega, by omega⟩
    have hcc : cr s n = U.look (tabS k) n := by rw [hk]; exact cr_scripts k n hk6
    rw [hcc] at hc
    have HC := Lib.hid (fun w h => by have := U.rune_is k hk6 n hn w h; rwa [hc, ← hk] at this : ∀ w, Tz w → Calls Tryz.prog 59 #[.int .i64 s, .int .i64 n] w fun e w' => e = .returned (.tuple #[.int .i32 r, .bool b]) ∧ Bel w w')
    have e1 : (s == 1) = false := by simp; omega
    have e2 : (s == 2) = false := by simp; omega
    have e9 : (s == 9) = false := by simp; omega
    have e10 : (s == 10) = false := by simp; omega
    have e11 : (s == 11) = false := by simp; omega
    have e12 : (s == 12) = false := by simp; omega
    clear hc hs hn hT hb0 hk hk6 hcc h3
    go_enter Tryz.func34, Tryz.ntmps34
    go_wp2_with (go_at_call 59; (with_reducible refine (HC.out _ (HT.out.bel HB0.out)).mono ?_); rintro e w1 ⟨rfl, hb1⟩)
    go_ret2
    exact ⟨rfl, HB0.out.trans hb1⟩
  · rw [cr_9] at hc
    have HC := Lib.hid (fun w => by have := E.rune_is n w; rwa [hc] at this : ∀ w, Calls Tryz.prog 57 #[.int .i64 n] w fun e w' => e = .returned (.tuple #[.int .i32 r, .bool b]) ∧ Bel w w')
    clear hc hs hn hT hb0
    go_enter Tryz.func34, Tryz.ntmps34
    go_wp2_with (go_at_call 57; (with_reducible refine (HC.out _).mono ?_); rintro e w1 ⟨rfl, hb1⟩)
    go_ret2
    exact ⟨rfl, HB0.out.trans hb1⟩
  · rw [cr_small s n h10] at hc
    have HC := Lib.hid (fun w => S.rune_is s n r b h10 hc w)
    clear hc hs hn hT hb0
    obtain rfl | rfl | rfl := h10
    · go_enter Tryz.func34, Tryz.ntmps34
      go_wp2_with (go_at_call 58; (with_reducible refine (HC.out _).mono ?_); rintro e w1 ⟨rfl, rfl⟩)
      go_ret2
      exact ⟨rfl, HB0.out⟩
    · go_enter Tryz.func34, Tryz.ntmps34
      go_wp2_with (go_at_call 58; (with_reducible refine (HC.out _).mono ?_); rintro e w1 ⟨rfl, rfl⟩)
      go_ret2
      exact ⟨rfl, HB0.out⟩
    · go_enter Tryz.func34, Tryz.ntmps34
      go_wp2_with (go_at_call 58; (with_reducible refine (HC.out _).mono ?_); rintro e w1 ⟨rfl, rfl⟩)
      go_ret2
      exact ⟨rfl, HB0.out⟩
end Go.Proofs.YtipigfgnpfhdbaaGreatDoor.G
namespace Go.Proofs.YtipigfgnpfhdbaaGreatDoor.G
open Go.RowKit U
set_option linter.unusedVariables false
theorem rd_lit {w : World} {cs : Array Value} {l : List Int} {k : IntKind} {t : TypeId} (h : cs.toList = l.map (Value.int k)) : Rd (w.alloc (.cells cs t)) (w.heap.size + 1) k (some ⟨w.heap.size, 0, none⟩) l := fun i x hx => by
  refine ⟨w.heap.size, 0, rfl, by omega, ?_⟩
  have e : cs = (l.map (Value.int k)).toArray := by rw [← h]
  have h1 := World.cell?_alloc_mark w cs t (0, 0) i
  rw [Nat.zero_add]
  refine h1.trans ?_
  rw [e]
  simp [hx]

/-- The table of last bytes holds a text for each set. -/
def Lt (w : World) : Prop := ∀ k : Nat, 1 ≤ k → k ≤ 12 → ∃ l : List Int, 1 ≤ l.length ∧ l.length ≤ 9 ∧ w.cell? ⟨1, k, none⟩ = some (.string (str l))
/-- The rows of East. -/
def rowsL : List Int := [2171648, 2174976, 2175232, 2568192, 3362304, 6890496, 6890752, 6891008]
def Rw (w : World) : Prop := ∀ i z, rowsL[i]? = some z → w.cell? ⟨0, i, none⟩ = some (.int .i64 z)
def Gz (w : World) : Prop := Tz w ∧ Lt w ∧ Rw w
theorem Gz.bel {w w' : World} (h : Gz w) (hb : Bel w w') : Gz w' := by
  refine ⟨h.1.bel hb, fun k h1 h2 => ?_, fun i z hz => ?_⟩
  · obtain ⟨l, a, b, c⟩ := h.2.1 k h1 h2
    exact ⟨l, a, b, (Below.cell hb (p := ⟨1, k, none⟩) (cell_block c)).trans c⟩
  · have c := h.2.2 i z hz
    exact (Below.cell hb (p := ⟨0, i, none⟩) (cell_block c)).trans c

/-- How many bytes a code has. -/
def sz (s : Int) : Int := if 1 ≤ s ∧ s ≤ 12 then (if s = 9 then 3 else 1) else 0
theorem is_is (s : Int) (b : Bool) (w : World) (h : decide (1 ≤ s ∧ s ≤ 12) = b) : Calls Tryz.prog 40 #[.int .i64 s] w fun e w' => e = .returned (.bool b) ∧ w' = w := by
  subst h
  go_enter Tryz.func40, Tryz.ntmps40
  go_wp2
  all_goals go_ret
  all_goals refine ⟨ret_bool ?_, rfl⟩
  all_goals (rw [Bool.eq_iff_iff]; simp; try omega)
theorem final_yes (s : Int) (w : World) (h : 1 ≤ s ∧ s ≤ 12) (hT : Lt w) : Calls Tryz.prog 22 #[.int .i64 s] w fun e w' => (∃ x, e = .returned (.tuple #[.int .u8 x, .bool true])) ∧ w' = w := by
  obtain ⟨k, rfl⟩ : ∃ k : Nat, s = k := ⟨s.toNat, by omega⟩
  obtain ⟨l, h1, h2, hc⟩ := hT k (by omega) (by omega)
  have HI := Lib.hid (fun w => is_is (k : Int) true w (by simpa using h))
  obtain ⟨S, hS⟩ : ∃ S, S = str l := ⟨_, rfl⟩
  have hz : S.size = l.length := by rw [hS, str_size]
  rw [← hS] at hc
  have q0 : (0 : Int) ≤ (k : Int) := by omega
  have q1 : (k : Int) < 13 := by omega
  obtain ⟨n, hn⟩ : ∃ n : Nat, S.size = n + 1 := ⟨l.length - 1, by omega⟩
  have hn9 : n ≤ 8 := by omega
  have q2 : wrap64 ((n : Int) + 1 - 1) = (n : Int) := by unfold wrap64; omega
  have q2' : wrap64 (n : Int) = (n : Int) := by unfold wrap64; omega
  have q3 : (0 : Int) ≤ (n : Int) := by omega
  have q4 : (n : Int) < (n : Int) + 1 := by omega
  clear hS h hT h1 h2 hz
  go_enter Tryz.func22, Tryz.ntmps22
  go_wp2_with (go_at_call 40; (with_reducible refine (HI.out _).mono ?_); rintro e w1 ⟨rfl, rfl⟩)
  go_ret2
  exact ⟨⟨_, rfl⟩, rfl⟩
theorem final_no (s : Int) (w : World) (h : ¬ (1 ≤ s ∧ s ≤ 12)) : Calls Tryz.prog 22 #[.int .i64 s] w fun e w' => e = .returned (.tuple #[.int .u8 0, .bool false]) ∧ w' = w := by
  have HI := Lib.hid (fun w => is_is s false w (by simpa using h))
  clear h
  go_enter Tryz.func22, Tryz.ntmps22
  go_wp2_with (go_at_call 40; (with_reducible refine (HI.out _).mono ?_); rintro e w1 ⟨rfl, rfl⟩)
  go_ret2
  exact ⟨rfl, rfl⟩
theorem size_is (s : Int) (w : World) (h : 1 ≤ s ∧ s ≤ 12) (hT : Lt w) : Calls Tryz.prog 9 #[.int .i64 s] w fun e w' => e = .returned (.int .i64 (sz s)) ∧ w' = w := by
  have HF := Lib.hid (fun w (h2 : Lt w) => final_yes s w h h2)
  have HT := Lib.hid hT
  have e0 : sz s = if s = 9 then 3 else 1 := if_pos h
  rw [e0]
  clear h hT e0
  by_cases h9 : s = 9
  · have e : (s == 9) = true := by simpa using h9
    rw [if_pos h9]
    clear h9
    go_enter Tryz.func9, Tryz.ntmps9
    go_wp2_with (go_at_call 22; (with_reducible refine (HF.out _ HT.out).mono ?_); rintro e w1 ⟨⟨x, rfl⟩, rfl⟩)
    go_ret
    exact ⟨rfl, rfl⟩
  · have e : (s == 9) = false := by simpa using h9
    rw [if_neg h9]
    clear h9
    go_enter Tryz.func9, Tryz.ntmps9
    go_wp2_with (go_at_call 22; (with_reducible refine (HF.out _ HT.out).mono ?_); rintro e w1 ⟨⟨x, rfl⟩, rfl⟩)
    go_ret
    exact ⟨rfl, rfl⟩

/-- The numbers of a row. -/
def rowL (high : Int) : List Int := (List.range 94).map fun (i : Nat) => high + (33 + (i : Int))
def rowK (high : Int) (k : Nat) : List Int := (List.range k).map fun (i : Nat) => high + (33 + (i : Int))
theorem rowK_succ (high : Int) (k : Nat) : rowK high (k + 1) = rowK high k ++ [high + (33 + (k : Int))] := by simp [rowK, List.range_succ]
theorem rowK_len (high : Int) (k : Nat) : (rowK high k).length = k := by simp [rowK]
theorem rowL_len (high : Int) : (rowL high).length = 94 := by simp [rowL]
theorem infoI : (Tryz.prog.info? 3).map (fun i => (i.zero, i.size, i.bytes)) = some (some (.int .i64 0), 1, 8) := by kernel_rfl
theorem Own_below {w w' : World} {base : Nat} {e : TypeId} {k : IntKind} {v : Value} {l : List Int} (h : U.Own w base e k v l) (hb : Bel w w') : U.Own w' base e k v l := h.keep hb
def RowRel (high : Int) (w : World) (u v : Value) (wr : World) : Prop := ∃ k : Nat, k ≤ 94 ∧ v = .int .i64 (33 + (k : Int)) ∧ U.Own wr w.heap.size 3 .i64 u (rowK high k) ∧ Bel w wr
def OwnPost (w : World) (l : List Int) (e : Ending) (w' : World) : Prop := ∃ v, e = .returned v ∧ U.Own w' w.heap.size 3 .i64 v l ∧ Bel w w'
set_option maxRecDepth 100000 in
set_option maxHeartbeats 2000000 in
theorem row_is (high : Int) (h0 : 0 ≤ high) (h1 : high ≤ 16777216) (w : World) : Calls Tryz.prog 35 #[.int .i64 high] w (OwnPost w (rowL high)) := by
  obtain ⟨i0, hi0, hz0, hz1, hz2⟩ := info_parts infoI
  go_enter Tryz.func35, Tryz.ntmps35
  go_wp2
  go_loopw [3, 4] (fun u v wr => RowRel high w u v wr) (fun _ v _ => 127 - (intOf v).toNat)
  case atStart => exact ⟨0, by omega, rfl, U.Own.nil _ _ _ _, Bel.refl _⟩
  case round =>
    obtain ⟨k, hk, rfl, hown, hB⟩ := hrel
    have HO := Lib.hid hown
    have HB := Lib.hid hB
    clear hown hB
    by_cases hlt : k < 94
    · have q0 : decide (33 + (k : Int) ≤ 126) = true := by simp; omega
      have q1 : wrap64 (high + (33 + (k : Int))) = high + (33 + (k : Int)) := by unfold wrap64; omega
      have HR : Hid (Rd (wr.alloc (.cells #[.int .i64 (high + (33 + (k : Int)))] 3)) (wr.heap.size + 1) .i64 (some ⟨wr.heap.size, 0, none⟩) [high + (33 + (k : Int))]) := Lib.hid (rd_lit rfl)
      have HBa : Hid (Bel w (wr.alloc (.cells #[.int .i64 (high + (33 + (k : Int)))] 3))) := Lib.hid (HB.out.alloc _)
      have HOa : Hid (U.Own (wr.alloc (.cells #[.int .i64 (high + (33 + (k : Int)))] 3)) w.heap.size 3 .i64 u3 (rowK high k)) := Lib.hid (HO.out.keep ((Bel.refl _).alloc _))
      go_wp2_with (first | (at_builtin; refine wpl_append (by rfl) (.tmp 9) (.tmp 13) 62 rfl Tryz.underlying62 hi0 hz0 hz1 hz2 rfl (by omega) HOa.out rfl HR.out rfl rfl (fun e => by cases e) (by rw [rowK_len]; omega) (Below.size HBa.out) ?_; intro v w1 hown1 hb1) | fail)
      exact ⟨⟨k + 1, by omega, (by first | rfl | (congr 1; omega)), by rw [rowK_succ]; exact hown1, Below.trans HBa.out hb1⟩, by simp [intOf]; omega⟩
    · obtain rfl : k = 94 := by omega
      go_wp2
      go_ret
      exact ⟨_, rfl, HO.out, HB.out⟩

/-- All numbers of a set that may have a character. -/
def everyL (s : Int) : List Int := if s = 9 then rowsL.flatMap rowL else rowL 0
def EvRel (w : World) (u v : Value) (wr : World) : Prop := ∃ k : Nat, k ≤ 8 ∧ v = .int .i64 k ∧ U.Own wr w.heap.size 3 .i64 u ((rowsL.take k).flatMap rowL) ∧ Bel w wr
theorem rows_len (l : List Int) : (l.flatMap rowL).length = 94 * l.length := by
  induction l with
  | nil => rfl
  | cons a l ih => simp only [List.flatMap_cons, List.length_append, rowL_len, ih, List.length_cons]; omega
theorem rows_fit {i : Nat} {z : Int} (h : rowsL[i]? = some z) : 0 ≤ z ∧ z ≤ 16777216 := by
  have h2 := List.all_eq_true.1 (show rowsL.all (fun z => decide (0 ≤ z) && decide (z ≤ 16777216)) = true by decide) z (List.mem_of_getElem? h)
  simpa using h2
def rowsV : Array Value := #[.int .i64 2171648, .int .i64 2174976, .int .i64 2175232, .int .i64 2568192, .int .i64 3362304, .int .i64 6890496, .int .i64 6890752, .int .i64 6891008]
theorem rowsV_at {k : Nat} (hk : k < 8) : ∃ z, rowsL[k]? = some z ∧ 0 ≤ z ∧ z ≤ 16777216 ∧ rowsV[k]? = some (.int .i64 z) ∧ rowsV.extract k (k + 1) = #[.int .i64 z] := by
  match k, hk with
  | 0, _ | 1, _ | 2, _ | 3, _ | 4, _ | 5, _ | 6, _ | 7, _ => exact ⟨_, rfl, by omega, by omega, rfl, rfl⟩
theorem row_at {k : Nat} (hk : k < 8) : ∃ z, rowsL[k]? = some z ∧ 0 ≤ z ∧ z ≤ 16777216 ∧ ∀ w : World, (Instr.index 65 (.agg rowsV) (.int .i64 k)).run Tryz.prog w = .ok (.int .i64 z) w := by
  obtain ⟨z, hz, z0, z1, h1, h2⟩ := rowsV_at hk
  have h3 : (0 : Int) ≤ k ∧ (k : Int) < 8 := by omega
  refine ⟨z, hz, z0, z1, fun w => ?_⟩
  unfold Instr.index part
  simp [go_sem, Result.andThen, h3, h1, h2]
  intro h
  omega
set_option maxRecDepth 100000 in
set_option maxHeartbeats 2000000 in
theorem every_is (s : Int) (w : World) (hT : Rw w) : Calls Tryz.prog 20 #[.int .i64 s] w (OwnPost w (everyL s)) := by
  unfold everyL
  by_cases h9 : s = 9
  · rw [if_pos h9]
    subst h9
    obtain ⟨i0, hi0, hz0, hz1, hz2⟩ := info_parts infoI
    have c0 := hT 0 _ rfl
    have c1 := hT 1 _ rfl
    have c2 := hT 2 _ rfl
    have c3 := hT 3 _ rfl
    have c4 := hT 4 _ rfl
    have c5 := hT 5 _ rfl
    have c6 := hT 6 _ rfl
    have c7 := hT 7 _ rfl
    clear hT
    go_enter Tryz.func20, Tryz.ntmps20
    have HRow := Lib.hid (fun high h0 h1 w => row_is high h0 h1 w)
    have HAt := Lib.hid (fun k hk => row_at (k := k) hk)
    go_wp2
    change Hid (∀ k : Nat, k < 8 → ∃ z, rowsL[k]? = some z ∧ 0 ≤ z ∧ z ≤ 16777216 ∧ ∀ w : World, (Instr.index 65 (.agg rowsV) (.int .i64 k)).run Tryz.prog w = .ok (.int .i64 z) w) at HAt
    have hV : rowsV = #[.int .i64 2171648, .int .i64 2174976, .int .i64 2175232, .int .i64 2568192, .int .i64 3362304, .int .i64 6890496, .int .i64 6890752, .int .i64 6891008] := rfl
    rw [← hV]
    generalize rowsV = V at HAt ⊢
    clear hV
    go_loopw [3, 10] (fun u v wr => EvRel w u v wr) (fun _ v _ => 8 - (intOf v).toNat)
    case atStart => exact ⟨0, by omega, rfl, U.Own.nil _ _ _ _, Bel.refl _⟩
    case round =>
      obtain ⟨k, hk, rfl, hown, hB⟩ := hrel
      have HO := Lib.hid hown
      have HB := Lib.hid hB
      clear hown hB
      by_cases hlt : k < 8
      · have q0 : decide ((k : Int) < 8) = true := by simp; omega
        obtain ⟨z, hz, z0, z1, hat⟩ := HAt.out k hlt
        have HZ := Lib.hid (And.intro hz (And.intro z0 z1))
        have q1 : wrap64 ((k : Int) + 1) = ((k + 1 : Nat) : Int) := by unfold wrap64; omega
        clear hz z0 z1
        have HFit : Hid (((rowsL.take k).flatMap rowL).length + 94 ≤ 100000) := Lib.hid (by rw [rows_len, List.length_take]; simp [rowsL]; omega)
        go_wp2_with (first | (go_at_call 35; (with_reducible refine (HRow.out z HZ.out.2.1 HZ.out.2.2 _).mono ?_); rintro e w1 ⟨v, rfl, hrow, hb⟩; obtain ⟨A, cap, rfl, hcap, hrd, hA⟩ := hrow.rd; have HOa := Lib.hid (HO.out.keep hb); have HBa := Lib.hid (HB.out.trans hb); have HRd := Lib.hid hrd; have HA := Lib.hid hA; clear hrow hb hcap hrd hA) | (at_builtin; refine wpl_append (by rfl) (.tmp 13) (.tmp 15) 62 rfl Tryz.underlying62 hi0 hz0 hz1 hz2 rfl (by omega) HOa.out rfl HRd.out rfl (by rw [rowL_len]) HA.out (by simpa [rowL_len] using HFit.out) (Below.size HBa.out) ?_; intro v w2 hown1 hb1) | fail)
        refine ⟨⟨k + 1, by omega, rfl, ?_, Below.trans HBa.out hb1⟩, by simp [intOf]; omega⟩
        rw [List.take_add_one, HZ.out.1]
        simpa using hown1
      · obtain rfl : k = 8 := by omega
        go_wp2
        go_ret
        exact ⟨_, rfl, HO.out, HB.out⟩
  · rw [if_neg h9]
    have e : (s == 9) = false := by simpa using h9
    have HR := Lib.hid (fun w => row_is 0 (by omega) (by omega) w)
    clear h9 hT
    go_enter Tryz.func20, Tryz.ntmps20
    go_wp2_with (go_at_call 35; (with_reducible refine (HR.out _).mono ?_); rintro e w1 ⟨v, rfl, hown, hb⟩)
    go_ret
    exact ⟨_, rfl, hown, hb⟩
end Go.Proofs.YtipigfgnpfhdbaaGreatDoor.G
namespace Go.Proofs.YtipigfgnpfhdbaaGreatDoor.G
open Go.RowKit U
set_option linter.unusedVariables false

def sg (x y : Int) : Int := if x < y then -1 else if y < x then 1 else 0
def sg2 (c d : Int × Int) : Int := if sg c.1 d.1 = 0 then sg c.2 d.2 else sg c.1 d.1
theorem nan_is (x : Int) (w : World) : Calls Tryz.prog 92 #[.int .i64 x] w fun e w' => e = .returned (.bool false) ∧ w' = w := by
  go_enter Tryz.func92, Tryz.ntmps92
  go_wp2
  go_ret
  exact ⟨ret_bool (by simp), rfl⟩
set_option maxHeartbeats 2000000 in
theorem cmp_is (x y : Int) (w : World) : Calls Tryz.prog 54 #[.int .i64 x, .int .i64 y] w fun e w' => e = .returned (.int .i64 (sg x y)) ∧ w' = w := by
  have HN := Lib.hid nan_is
  have h3 : sg x y = if x < y then -1 else if y < x then 1 else 0 := rfl
  rw [h3]
  go_enter Tryz.func54, Tryz.ntmps54
  by_cases h1 : x < y
  · have q1 : decide (x < y) = true := by simpa using h1
    rw [if_pos h1]
    clear h1 h3
    go_wp2_with (go_at_call 92; (with_reducible refine (HN.out _ _).mono ?_); rintro e w1 ⟨rfl, rfl⟩)
    go_ret
    exact ⟨rfl, rfl⟩
  · have q1 : decide (x < y) = false := by simpa using h1
    rw [if_neg h1]
    by_cases h2 : y < x
    · have q2 : decide (y < x) = true := by simpa using h2
      rw [if_pos h2]
      clear h1 h2 h3
      go_wp2_with (go_at_call 92; (with_reducible refine (HN.out _ _).mono ?_); rintro e w1 ⟨rfl, rfl⟩)
      go_ret
      exact ⟨rfl, rfl⟩
    · have q2 : decide (y < x) = false := by simpa using h2
      rw [if_neg h2]
      clear h1 h2 h3
      go_wp2_with (go_at_call 92; (with_reducible refine (HN.out _ _).mono ?_); rintro e w1 ⟨rfl, rfl⟩)
      go_ret
      exact ⟨rfl, rfl⟩
def OrRel (x y : Int) (w : World) (u : Value) (wr : World) : Prop := wr = w ∧ (u = .int .i64 0 ∨ (u = .int .i64 1 ∧ x = 0) ∨ (u = .int .i64 2 ∧ x = 0 ∧ y = 0))
set_option maxHeartbeats 2000000 in
theorem or_is (x y : Int) (g off c : Nat) (w : World) (c0 : w.cell? ⟨g, off, none⟩ = some (.int .i64 x)) (c1 : w.cell? ⟨g, off + 1, none⟩ = some (.int .i64 y)) :
    Calls Tryz.prog 53 #[.slice (some ⟨g, off, none⟩) 2 c] w fun e w' => e = .returned (.int .i64 (if x = 0 then y else x)) ∧ w' = w := by
  obtain ⟨z, hz⟩ : ∃ z, (if x = 0 then y else x) = z := ⟨_, rfl⟩
  rw [hz]
  have HZ := Lib.hid hz
  clear hz
  go_enter Tryz.func53, Tryz.ntmps53
  go_wp2
  go_loopw [8] (fun u wr => OrRel x y w u wr) (fun u _ => 2 - (intOf u).toNat)
  case atStart => exact ⟨rfl, .inl rfl⟩
  case round =>
    obtain ⟨rfl, rfl | ⟨rfl, h0⟩ | ⟨rfl, h0, h1⟩⟩ := hrel
    · by_cases hx : x = 0
      · have e : (x != 0) = false := by simpa using hx
        have HX := Lib.hid hx
        clear hx
        go_wp2
        exact ⟨⟨rfl, .inr (.inl ⟨by simp, HX.out⟩)⟩, by simp [intOf]⟩
      · have e : (x != 0) = true := by simpa using hx
        have HX := Lib.hid hx
        clear hx
        go_wp2
        go_ret
        exact ⟨by rw [← HZ.out, if_neg HX.out]; rfl, rfl⟩
    · have H0 := Lib.hid h0
      clear h0
      by_cases hy : y = 0
      · have e : (y != 0) = false := by simpa using hy
        have HY := Lib.hid hy
        clear hy
        go_wp2
        exact ⟨⟨rfl, .inr (.inr ⟨by simp, H0.out, HY.out⟩)⟩, by simp [intOf]⟩
      · have e : (y != 0) = true := by simpa using hy
        clear hy
        go_wp2
        go_ret
        exact ⟨by rw [← HZ.out, if_pos H0.out]; rfl, rfl⟩
    · have H0 := Lib.hid h0
      have H1 := Lib.hid h1
      clear h0 h1
      go_wp2
      go_ret
      exact ⟨by rw [← HZ.out, if_pos H0.out, H1.out]; rfl, rfl⟩
def orV (x y : Int) : Int := if x = 0 then y else x
theorem or_new (x y : Int) (W : World) : Calls Tryz.prog 53 #[.slice (some ⟨W.heap.size, 0, none⟩) 2 2] (W.alloc (.cells #[.int .i64 x, .int .i64 y] 3)).drew fun e w' => e = .returned (.int .i64 (orV x y)) ∧ w' = (W.alloc (.cells #[.int .i64 x, .int .i64 y] 3)).drew :=
  or_is x y W.heap.size 0 2 _ (show (W.alloc (.cells #[.int .i64 x, .int .i64 y] 3)).cell? ⟨W.heap.size, 0, none⟩ = _ by simp) (show (W.alloc (.cells #[.int .i64 x, .int .i64 y] 3)).cell? ⟨W.heap.size, 0 + 1, none⟩ = _ by simp)
theorem four_bel {B x1 x2 y1 y2 : _} {w a b : World} (h : Bel w a ∧ a.cell? ⟨B, 0, none⟩ = some x1 ∧ a.cell? ⟨B, 1, none⟩ = some x2 ∧ a.cell? ⟨B + 1, 0, none⟩ = some y1 ∧ a.cell? ⟨B + 1, 1, none⟩ = some y2) (hb : Bel a b) :
    Bel w b ∧ b.cell? ⟨B, 0, none⟩ = some x1 ∧ b.cell? ⟨B, 1, none⟩ = some x2 ∧ b.cell? ⟨B + 1, 0, none⟩ = some y1 ∧ b.cell? ⟨B + 1, 1, none⟩ = some y2 := by
  obtain ⟨h0, h1, h2, h3, h4⟩ := h
  exact ⟨h0.trans hb, (Below.cell hb (p := ⟨B, 0, none⟩) (cell_block h1)).trans h1, (Below.cell hb (p := ⟨B, 1, none⟩) (cell_block h2)).trans h2, (Below.cell hb (p := ⟨B + 1, 0, none⟩) (cell_block h3)).trans h3, (Below.cell hb (p := ⟨B + 1, 1, none⟩) (cell_block h4)).trans h4⟩
end Go.Proofs.YtipigfgnpfhdbaaGreatDoor.G
namespace Go.Proofs.YtipigfgnpfhdbaaGreatDoor.R
open Go
set_option linter.unusedVariables false

/-- What must be done ahead of an operation. -/
def deps (ops : Array Oper) (i : Nat) : List Nat := match ops[i]? with
  | some o => (o.after.toList.filter (Region.binds .any ·)).map (·.on)
  | none => []
/-- Only what stands ahead of it. -/
def ordB (ops : Array Oper) : Bool := (List.range ops.size).all fun i => (deps ops i).all fun j => decide (j < i)
def setL (L : Nat → Bool) (i : Nat) : Nat → Bool := fun j => if j = i then true else L j
theorem setL_self (L : Nat → Bool) (i : Nat) : setL L i i = true := if_pos rfl
theorem setL_other {L : Nat → Bool} {i j : Nat} (h : j ≠ i) : setL L i j = L j := if_neg h
def lis (l : Array Bool) : Nat → Bool := fun j => l.getD j false

theorem lis_set (l : Array Bool) (i : Nat) (h : i < l.size) : lis (l.setIfInBounds i true) = setL (lis l) i := by
  funext j
  unfold lis setL
  by_cases e : j = i
  · subst e
    rw [if_pos rfl, Array.getD_eq_getD_getElem?, Array.getElem?_setIfInBounds_self_of_lt h]
    rfl
  · rw [if_neg e]
    simp only [Array.getD_eq_getD_getElem?]
    rw [Array.getElem?_setIfInBounds_ne (Ne.symm e)]

section
variable {P : Program} {ops : Array Oper} {Q : Exit → Act → World → Prop}

theorem ready_mem {l : Array Bool} {i : Nat} (hl : l.size = ops.size) : i ∈ Region.ready .any ops l ↔ i < ops.size ∧ lis l i = false ∧ ∀ j ∈ deps ops i, lis l j = true := by
  unfold Region.ready
  rw [List.mem_filter, List.mem_range]
  constructor
  · rintro ⟨h1, h2⟩
    rw [Bool.and_eq_true] at h2
    obtain ⟨h2, h3⟩ := h2
    refine ⟨h1, ?_, ?_⟩
    · have : l.getD i true = false := by simpa using h2
      unfold lis
      rw [Array.getD_eq_getD_getElem?] at this ⊢
      rw [Array.getElem?_eq_getElem (by omega)] at this ⊢
      simpa using this
    · intro j hj
      have ho : ops[i]? = some ops[i] := Array.getElem?_eq_getElem h1
      simp only [deps, ho, List.mem_map, List.mem_filter] at hj
      obtain ⟨e, ⟨he, hb⟩, rfl⟩ := hj
      rw [ho] at h3
      simp only [Option.map_some, Option.getD_some, Array.all_eq_true_iff_forall_mem] at h3
      have := h3 e (by simpa using he)
      rw [hb] at this
      simpa [lis] using this
  · rintro ⟨h1, h2, h3⟩
    refine ⟨h1, ?_⟩
    rw [Bool.and_eq_true]
    refine ⟨?_, ?_⟩
    · have : l.getD i true = false := by
        unfold lis at h2
        rw [Array.getD_eq_getD_getElem?] at h2 ⊢
        rw [Array.getElem?_eq_getElem (by omega)] at h2 ⊢
        simpa using h2
      simp [this]
    · have ho : ops[i]? = some ops[i] := Array.getElem?_eq_getElem h1
      rw [ho]
      simp only [Option.map_some, Option.getD_some, Array.all_eq_true_iff_forall_mem]
      intro e he
      by_cases hb : Region.binds .any e = true
      · rw [hb]
        have := h3 e.on (by simp only [deps, ho, List.mem_map, List.mem_filter]; exact ⟨e, ⟨by simpa using he, hb⟩, rfl⟩)
        simpa [lis] using this
      · simp [hb]

theorem all_of_none {l : Array Bool} (hl : l.size = ops.size) (ho : ordB ops = true) (hr : Region.ready .any ops l = []) : ∀ i, i < ops.size → lis l i = true := by
  intro i
  induction i using Nat.strongRecOn with
  | ind i ih =>
    intro hi
    rcases hb : lis l i with _ | _
    · exfalso
      have : i ∈ Region.ready .any ops l := (ready_mem hl).2 ⟨hi, hb, fun j hj => by
        have h1 : decide (j < i) = true := by
          unfold ordB at ho
          rw [List.all_eq_true] at ho
          have := ho i (List.mem_range.2 hi)
          rw [List.all_eq_true] at this
          exact this j hj
        have h2 : j < i := of_decide_eq_true h1
        exact ih j h2 (by omega)⟩
      rw [hr] at this
      cases this
    · rfl

def falses (l : Array Bool) : Nat := (l.toList.filter (· == false)).length
theorem falses_set : ∀ (l : List Bool) (i : Nat), l[i]? = some false → ((l.set i true).filter (· == false)).length + 1 = (l.filter (· == false)).length
  | [], i, h => by simp at h
  | b :: l, 0, h => by
    simp at h
    subst h
    simp
  | b :: l, i + 1, h => by
    have := falses_set l i (by simpa using h)
    rcases b with _ | _ <;> simp at this ⊢ <;> omega

/-- THE RULE. -/
theorem inv_any (ho : ordB ops = true) (J : (Nat → Bool) → Act → World → Prop)
    (hs : ∀ i, i < ops.size → ∀ L a w, J L a w → L i = false → (∀ j ∈ deps ops i, L j = true) → wpOp P ops Q i (fun a' w' => J (setL L i) a' w') a w)
    (he : ∀ L a w, J L a w → (∀ i, i < ops.size → L i = true) → Q .normal a w) :
    ∀ (fuel : Nat) (l : Array Bool), l.size = ops.size → falses l = fuel → ∀ a w, J (lis l) a w → wpAny P .any ops Q fuel l a w := by
  intro fuel
  induction fuel with
  | zero =>
    intro l hl hf a w hj
    have hall : ∀ i, i < ops.size → lis l i = true := by
      intro i hi
      rcases hb : lis l i with _ | _
      · exfalso
        have h1 : l.toList[i]? = some false := by
          unfold lis at hb
          rw [Array.getD_eq_getD_getElem?, Array.getElem?_eq_getElem (by omega)] at hb
          rw [Array.getElem?_toList, Array.getElem?_eq_getElem (by omega)]
          simpa using hb
        have := falses_set l.toList i h1
        unfold falses at hf
        omega
      · rfl
    refine ⟨?_, he _ a w hj hall⟩
    rw [List.eq_nil_iff_forall_not_mem]
    intro i hi
    obtain ⟨h1, h2, _⟩ := (ready_mem hl).1 hi
    rw [hall i h1] at h2
    cases h2
  | succ fuel ih =>
    intro l hl hf a w hj
    refine ⟨fun hr => he _ a w hj (all_of_none hl ho hr), fun i hi => ?_⟩
    obtain ⟨h1, h2, h3⟩ := (ready_mem hl).1 hi
    refine wpOp_mono (fun a' w' h => ?_) (hs i h1 _ a w hj h2 h3)
    refine ih (l.setIfInBounds i true) (by simpa using hl) ?_ a' w' (by rw [lis_set l i (by omega)]; exact h)
    have h4 : l.toList[i]? = some false := by
      unfold lis at h2
      rw [Array.getD_eq_getD_getElem?, Array.getElem?_eq_getElem (by omega)] at h2
      rw [Array.getElem?_toList, Array.getElem?_eq_getElem (by omega)]
      simpa using h2
    have := falses_set l.toList i h4
    unfold falses at hf ⊢
    rw [Array.toList_setIfInBounds]
    omega

theorem region_inv {id : Nat} {a : Act} {w : World} (hm : P.follows .mixedOrders = true) (ho : ordB ops = true) (J : (Nat → Bool) → Act → World → Prop)
    (h0 : J (fun _ => false) a w.drew)
    (hs : ∀ i, i < ops.size → ∀ L a w, J L a w → L i = false → (∀ j ∈ deps ops i, L j = true) → wpOp P ops Q i (fun a' w' => J (setL L i) a' w') a w)
    (he : ∀ L a w, J L a w → (∀ i, i < ops.size → L i = true) → Q .normal a w) : (Code.region id ops true).wp P Q a w := by
  refine wp_region_any hm (inv_any ho J hs he _ _ (by simp) ?_ a _ ?_)
  · unfold falses
    simp
  · have : lis (Array.replicate ops.size false) = fun _ => false := by
      funext j
      unfold lis
      rw [Array.getD_eq_getD_getElem?]
      rcases Nat.lt_or_ge j ops.size with h | h
      · rw [Array.getElem?_replicate, if_pos h]; rfl
      · rw [Array.getElem?_eq_none (by simpa using h)]; rfl
    rw [this]
    exact h0

/-- One operation, as the walk knows a list of one. -/
def KQ (K : Act → World → Prop) (Q : Exit → Act → World → Prop) : Exit → Act → World → Prop := fun x a w => match x with
  | .normal => K a w
  | .exit i => Q (.exit i) a w
  | .goto l => Q (.goto l) a w
  | .ret => Q .ret a w
  | .panic c => Q (.panic c) a w
  | .outgrown => Q .outgrown a w
theorem kq_normal {K : Act → World → Prop} {Q : Exit → Act → World → Prop} {a : Act} {w : World} (h : K a w) : KQ K Q .normal a w := h
theorem upon_kq {ops : Array Oper} {o : Oper} {a : Act} {K : Act → World → Prop} {r : Result Next} (h : o.upon P a (wpList P ops (KQ K Q) []) (KQ K Q) r) : o.upon P a K Q r := by
  cases r with
  | ok n w' =>
    cases n <;> simp only [Oper.upon] at h ⊢ <;> first
      | exact h
      | exact Calls.mono h (fun e w'' he => by cases e <;> exact he)
  | halt x w' => cases x <;> simp only [Oper.upon] at h ⊢ <;> exact h
theorem op_of_list {i : Nat} {o : Oper} {a : Act} {w : World} {K : Act → World → Prop} (ho : ops[i]? = some o) (h : wpList P ops (KQ K Q) [o] a w) : wpOp P ops Q i K a w := by
  unfold wpOp
  rw [ho]
  unfold wpList at h
  simp only []
  split
  · rename_i hw
    rw [if_pos hw] at h
    rcases h with h | h
    · exact .inl (upon_kq (ops := ops) h)
    · exact .inr h
  · rename_i hw
    rw [if_neg hw] at h
    exact h
end
end Go.Proofs.YtipigfgnpfhdbaaGreatDoor.R
namespace Go.Proofs.YtipigfgnpfhdbaaGreatDoor.G
open Go.RowKit U
set_option linter.unusedVariables false

def upd (V : Nat → Value) (i : Nat) (v : Value) : Nat → Value := fun j => if j = i then v else V j
theorem upd_self (V : Nat → Value) (i : Nat) (v : Value) : upd V i v i = v := if_pos rfl
theorem upd_other (V : Nat → Value) {i j : Nat} (v : Value) (h : j ≠ i) : upd V i v j = V j := if_neg h
/-- Draws, and new blocks; nothing else. -/
def Grw (w w' : World) : Prop := ∃ (q : Nat) (os : Array Obj), w' = Go.Sort.grow (w.drewN q) os
theorem Grw.refl (w : World) : Grw w w := ⟨0, #[], by rw [Go.Sort.grow_empty]; rfl⟩
theorem grow_drew (w : World) (q : Nat) (os : Array Obj) : (Go.Sort.grow w os).drewN q = Go.Sort.grow (w.drewN q) os := rfl
theorem Grw.trans {a b c : World} (h : Grw a b) (k : Grw b c) : Grw a c := by
  obtain ⟨q, os, rfl⟩ := h
  obtain ⟨r, os', rfl⟩ := k
  exact ⟨q + r, os ++ os', by rw [grow_drew, Go.Sort.grow_grow, World.drewN_drewN]⟩
theorem Grw.drew (w : World) : Grw w w.drew := ⟨1, #[], by rw [Go.Sort.grow_empty]; rfl⟩
theorem Grw.alloc (w : World) (o : Obj) : Grw w (w.alloc o) := ⟨0, #[o], by rw [Go.Sort.alloc_eq_grow]; rfl⟩
section
variable (b : Nat) (c1 c2 d1 d2 z : Int)
def kF (V : Nat → Value) : Act := { tmps := #[.agg #[.int .i64 c1, .int .i64 c2], .agg #[.int .i64 d1, .int .i64 d2], .pointer (some ⟨b, 0, none⟩), .pointer (some ⟨b + 1, 0, none⟩), V 12, V 0, V 1, V 2, V 3, V 4, V 5, V 6, V 7, V 8, V 9, V 10, V 11], defers := [] }
def kPhi : Nat → Value → World → Prop
  | 0, v, _ => v = .pointer (some ⟨b, 0, none⟩)
  | 1, v, _ => v = .int .i64 c1
  | 2, v, _ => v = .pointer (some ⟨b + 1, 0, none⟩)
  | 3, v, _ => v = .int .i64 d1
  | 4, v, _ => v = .int .i64 (sg c1 d1)
  | 5, v, _ => v = .pointer (some ⟨b, 1, none⟩)
  | 6, v, _ => v = .int .i64 c2
  | 7, v, _ => v = .pointer (some ⟨b + 1, 1, none⟩)
  | 8, v, _ => v = .int .i64 d2
  | 9, v, _ => v = .int .i64 (sg c2 d2)
  | 10, v, u => ∃ g, v = .slice (some ⟨g, 0, none⟩) 2 2 ∧ u.cell? ⟨g, 0, none⟩ = some (.int .i64 (sg c1 d1)) ∧ u.cell? ⟨g, 1, none⟩ = some (.int .i64 (sg c2 d2))
  | 11, v, _ => v = .int .i64 z
  | 12, v, _ => v = .int .i64 z
  | _, _, _ => True
def kJ (W : World) (L : Nat → Bool) (V : Nat → Value) (u : World) : Prop := (Bel W u ∧ Grw W u) ∧ ∀ j, L j = true → kPhi b c1 c2 d1 d2 z j (V j) u
end
section
variable {b : Nat} {c1 c2 d1 d2 z : Int} {W : World}
theorem kphi_bel {j : Nat} {v : Value} {u u' : World} (hb : Bel u u') (h : kPhi b c1 c2 d1 d2 z j v u) : kPhi b c1 c2 d1 d2 z j v u' :=
  match j, h with
  | 0, h => h
  | 1, h => h
  | 2, h => h
  | 3, h => h
  | 4, h => h
  | 5, h => h
  | 6, h => h
  | 7, h => h
  | 8, h => h
  | 9, h => h
  | 10, ⟨g, h1, h2, h3⟩ => ⟨g, h1, (Below.cell hb (p := ⟨g, 0, none⟩) (cell_block h2)).trans h2, (Below.cell hb (p := ⟨g, 1, none⟩) (cell_block h3)).trans h3⟩
  | 11, h => h
  | 12, h => h
  | (n + 13), _ => trivial
theorem kj_step {L : Nat → Bool} {V : Nat → Value} {u u' : World} (i : Nat) (v : Value) (hJ : kJ b c1 c2 d1 d2 z W L V u) (hb : Bel u u') (hg : Grw u u') (hv : kPhi b c1 c2 d1 d2 z i v u') : kJ b c1 c2 d1 d2 z W (R.setL L i) (upd V i v) u' := by
  obtain ⟨h1, h2⟩ := hJ
  refine ⟨⟨h1.1.trans hb, h1.2.trans hg⟩, fun j hj => ?_⟩
  by_cases e : j = i
  · subst e
    rw [upd_self]
    exact hv
  · rw [upd_other V v e]
    rw [R.setL_other e] at hj
    exact kphi_bel hb (h2 j hj)
end
set_option maxRecDepth 100000 in
set_option maxHeartbeats 4000000 in
theorem compare_walk (c1 c2 d1 d2 z : Int) (w : World) (hz : orV (sg c1 d1) (sg c2 d2) = z) : Calls Tryz.prog 33 #[.agg #[.int .i64 c1, .int .i64 c2], .agg #[.int .i64 d1, .int .i64 d2]] w fun e w' => e = .returned (.int .i64 z) ∧ Grw w w' := by
  have HC := Lib.hid cmp_is
  have HZ := Lib.hid hz
  clear hz
  go_enter Tryz.func33, Tryz.ntmps33
  go_wp2_with fail
  have hb0 : Grw w ((w.alloc (.cells #[.int .i64 c1, .int .i64 c2] 30)).alloc (.cells #[.int .i64 d1, .int .i64 d2] 30)) := (Grw.alloc w _).trans (Grw.alloc _ _)
  have x0 : ((w.alloc (.cells #[.int .i64 c1, .int .i64 c2] 30)).alloc (.cells #[.int .i64 d1, .int .i64 d2] 30)).cell? ⟨w.heap.size, 0, none⟩ = some (.int .i64 c1) := by simp [go_sem]
  have x1 : ((w.alloc (.cells #[.int .i64 c1, .int .i64 c2] 30)).alloc (.cells #[.int .i64 d1, .int .i64 d2] 30)).cell? ⟨w.heap.size, 1, none⟩ = some (.int .i64 c2) := by simp [go_sem]
  have x2 : ((w.alloc (.cells #[.int .i64 c1, .int .i64 c2] 30)).alloc (.cells #[.int .i64 d1, .int .i64 d2] 30)).cell? ⟨w.heap.size + 1, 0, none⟩ = some (.int .i64 d1) := by simp [go_sem]
  have x3 : ((w.alloc (.cells #[.int .i64 c1, .int .i64 c2] 30)).alloc (.cells #[.int .i64 d1, .int .i64 d2] 30)).cell? ⟨w.heap.size + 1, 1, none⟩ = some (.int .i64 d2) := by simp [go_sem]
  generalize ((w.alloc (.cells #[.int .i64 c1, .int .i64 c2] 30)).alloc (.cells #[.int .i64 d1, .int .i64 d2] 30)) = W at *
  generalize hbb : w.heap.size = b at *
  clear hbb
  have HB0 := Lib.hid hb0
  have X0 := Lib.hid x0
  have X1 := Lib.hid x1
  have X2 := Lib.hid x2
  have X3 := Lib.hid x3
  clear hb0 x0 x1 x2 x3
  refine R.region_inv (by kernel_rfl) (by kernel_rfl) (fun L a u => ∃ V, a = kF b c1 c2 d1 d2 V ∧ kJ b c1 c2 d1 d2 z W L V u) ⟨fun j => if j = 12 then .int .i64 0 else undef, rfl, ⟨(Bel.refl W).drew, Grw.drew W⟩, fun j h => by cases h⟩ ?_ ?_
  · intro i hi L a u hJ hL hd
    obtain ⟨V, rfl, hJ⟩ := hJ
    have HJ := Lib.hid hJ
    have hbu : Hid (Bel W u) := Lib.hid hJ.1.1
    have hphi := Lib.hid hJ.2
    clear hJ
    have : i = 0 ∨ i = 1 ∨ i = 2 ∨ i = 3 ∨ i = 4 ∨ i = 5 ∨ i = 6 ∨ i = 7 ∨ i = 8 ∨ i = 9 ∨ i = 10 ∨ i = 11 ∨ i = 12 := by
      have : i < 13 := hi
      omega
    rcases this with rfl | rfl | rfl | rfl | rfl | rfl | rfl | rfl | rfl | rfl | rfl | rfl | rfl
    · clear hd hi
      refine R.op_of_list rfl ?_
      unfold kF
      go_wp2
      exact ⟨upd V 0 (.pointer (some ⟨b, 0, none⟩)), by simp [upd], kj_step 0 _ HJ.out (Bel.refl _) (Grw.refl _) rfl⟩
    · have t0 := hd 0 (by decide +kernel)
      clear hd hi
      have v0 : V 0 = .pointer (some ⟨b, 0, none⟩) := hphi.out 0 t0
      have q := (Below.cell hbu.out (p := ⟨b, 0, none⟩) (cell_block X0.out)).trans X0.out
      refine R.op_of_list rfl ?_
      unfold kF
      go_wp2
      exact ⟨upd V 1 (.int .i64 c1), by simp [upd, v0], kj_step 1 _ HJ.out (Bel.refl _) (Grw.refl _) rfl⟩
    · clear hd hi
      refine R.op_of_list rfl ?_
      unfold kF
      go_wp2
      exact ⟨upd V 2 (.pointer (some ⟨b + 1, 0, none⟩)), by simp [upd], kj_step 2 _ HJ.out (Bel.refl _) (Grw.refl _) rfl⟩
    · have t2 := hd 2 (by decide +kernel)
      clear hd hi
      have v2 : V 2 = .pointer (some ⟨b + 1, 0, none⟩) := hphi.out 2 t2
      have q := (Below.cell hbu.out (p := ⟨b + 1, 0, none⟩) (cell_block X2.out)).trans X2.out
      refine R.op_of_list rfl ?_
      unfold kF
      go_wp2
      exact ⟨upd V 3 (.int .i64 d1), by simp [upd, v2], kj_step 3 _ HJ.out (Bel.refl _) (Grw.refl _) rfl⟩
    · have t1 := hd 1 (by decide +kernel)
      have t3 := hd 3 (by decide +kernel)
      clear hd hi
      have v1 : V 1 = .int .i64 c1 := hphi.out 1 t1
      have v3 : V 3 = .int .i64 d1 := hphi.out 3 t3
      refine R.op_of_list rfl ?_
      unfold kF
      go_wp2_with fail
      refine (HC.out _ _ _).mono ?_
      rintro e u1 ⟨rfl, rfl⟩
      go_wp2
      exact ⟨upd V 4 (.int .i64 (sg c1 d1)), by simp [upd, v1, v3], kj_step 4 _ HJ.out (Bel.refl _) (Grw.refl _) rfl⟩
    · clear hd hi
      refine R.op_of_list rfl ?_
      unfold kF
      go_wp2
      exact ⟨upd V 5 (.pointer (some ⟨b, 1, none⟩)), by simp [upd], kj_step 5 _ HJ.out (Bel.refl _) (Grw.refl _) rfl⟩
    · have t5 := hd 5 (by decide +kernel)
      clear hd hi
      have v5 : V 5 = .pointer (some ⟨b, 1, none⟩) := hphi.out 5 t5
      have q := (Below.cell hbu.out (p := ⟨b, 1, none⟩) (cell_block X1.out)).trans X1.out
      refine R.op_of_list rfl ?_
      unfold kF
      go_wp2
      exact ⟨upd V 6 (.int .i64 c2), by simp [upd, v5], kj_step 6 _ HJ.out (Bel.refl _) (Grw.refl _) rfl⟩
    · clear hd hi
      refine R.op_of_list rfl ?_
      unfold kF
      go_wp2
      exact ⟨upd V 7 (.pointer (some ⟨b + 1, 1, none⟩)), by simp [upd], kj_step 7 _ HJ.out (Bel.refl _) (Grw.refl _) rfl⟩
    · have t7 := hd 7 (by decide +kernel)
      clear hd hi
      have v7 : V 7 = .pointer (some ⟨b + 1, 1, none⟩) := hphi.out 7 t7
      have q := (Below.cell hbu.out (p := ⟨b + 1, 1, none⟩) (cell_block X3.out)).trans X3.out
      refine R.op_of_list rfl ?_
      unfold kF
      go_wp2
      exact ⟨upd V 8 (.int .i64 d2), by simp [upd, v7], kj_step 8 _ HJ.out (Bel.refl _) (Grw.refl _) rfl⟩
    · have t6 := hd 6 (by decide +kernel)
      have t8 := hd 8 (by decide +kernel)
      clear hd hi
      have v6 : V 6 = .int .i64 c2 := hphi.out 6 t6
      have v8 : V 8 = .int .i64 d2 := hphi.out 8 t8
      refine R.op_of_list rfl ?_
      unfold kF
      go_wp2_with fail
      refine (HC.out _ _ _).mono ?_
      rintro e u1 ⟨rfl, rfl⟩
      go_wp2
      exact ⟨upd V 9 (.int .i64 (sg c2 d2)), by simp [upd, v6, v8], kj_step 9 _ HJ.out (Bel.refl _) (Grw.refl _) rfl⟩
    · have t4 := hd 4 (by decide +kernel)
      have t9 := hd 9 (by decide +kernel)
      clear hd hi
      have v4 : V 4 = .int .i64 (sg c1 d1) := hphi.out 4 t4
      have v9 : V 9 = .int .i64 (sg c2 d2) := hphi.out 9 t9
      refine R.op_of_list rfl ?_
      unfold kF
      go_wp2
      exact ⟨upd V 10 (.slice (some ⟨u.heap.size, 0, none⟩) 2 2), by simp [upd, v4, v9], kj_step 10 _ HJ.out ((Bel.refl u).alloc _) (Grw.alloc u _) ⟨_, rfl, by simp [go_sem], by simp [go_sem]⟩⟩
    · have t10 := hd 10 (by decide +kernel)
      clear hd hi
      obtain ⟨g, v10, g0, g1⟩ := hphi.out 10 t10
      have HO := Lib.hid (or_is (sg c1 d1) (sg c2 d2) g 0 2 u g0 g1)
      clear g0 g1
      refine R.op_of_list rfl ?_
      unfold kF
      go_wp2_with fail
      refine HO.out.mono ?_
      rintro e u1 ⟨he, rfl⟩
      have he2 : e = .returned (.int .i64 z) := by rw [he, ← HZ.out]; rfl
      subst he2
      go_wp2
      exact ⟨upd V 11 (.int .i64 z), by simp [upd, v10], kj_step 11 _ HJ.out (Bel.refl _) (Grw.refl _) rfl⟩
    · have t11 := hd 11 (by decide +kernel)
      clear hd hi
      have v11 : V 11 = .int .i64 z := hphi.out 11 t11
      refine R.op_of_list rfl ?_
      unfold kF
      go_wp2
      exact ⟨upd V 12 (.int .i64 z), by simp [upd, v11], kj_step 12 _ HJ.out (Bel.refl _) (Grw.refl _) rfl⟩
  · intro L a u hJ hall
    obtain ⟨V, rfl, ⟨_, hgu⟩, hphi⟩ := hJ
    have v12 : V 12 = .int .i64 z := hphi 12 (hall 12 (by decide +kernel))
    clear hphi hall
    unfold kF
    rw [v12]
    clear v12
    go_wp2
    go_ret
    exact ⟨rfl, HB0.out.trans hgu⟩
theorem compare_is (c d : Int × Int) (w : World) : Calls Tryz.prog 33 #[.agg #[.int .i64 c.1, .int .i64 c.2], .agg #[.int .i64 d.1, .int .i64 d.2]] w fun e w' => e = .returned (.int .i64 (sg2 c d)) ∧ Grw w w' :=
  compare_walk c.1 c.2 d.1 d.2 (sg2 c d) w rfl
end Go.Proofs.YtipigfgnpfhdbaaGreatDoor.G
namespace Go.Proofs.YtipigfgnpfhdbaaGreatDoor.M
open Go.Maps (Keyed)
open Go.RowKit
set_option linter.unusedVariables false

/-- Any value reads as itself. -/
def vR (v : Value) : Option (DataW Value × List MemPlace) := some (.held v, [])

section
variable {α : Type} {P : Program} {k : TypeId}

/-- The reading D is that of the pairs of L. -/
def Holds (P : Program) (k : TypeId) (f : α → Value × Value) (L : List α) (D : DataW Value) : Prop :=
  (L.map fun x => (f x).1).Nodup ∧ (∀ x ∈ L, ∃ kl, keyOf P k (f x).1 = some kl ∧ D.atKey kl .nil = .held (f x).2) ∧ (∀ key kl, keyOf P k key = some kl → (∀ x ∈ L, (f x).1 ≠ key) → Maps.has D kl = false)
/-- Block b is a map of at most n entries: just the pairs of L. -/
def MapIs (P : Program) (k : TypeId) (w : World) (b n : Nat) (f : α → Value × Value) (L : List α) : Prop := ∃ D : DataW Value, w.ownsMap P k vR b n D ∧ Holds P k f L D
/-- Block r is an iterator over it; those of 'done' have come. -/
def RangeIs (P : Program) (k : TypeId) (w : World) (b r n : Nat) (f : α → Value × Value) (L done : List α) (cnt : Nat) : Prop :=
  ∃ (D : DataW Value) (left : Lit → Bool), w.ranges P k vR b r n D left cnt ∧ Holds P k f L D ∧ done.Nodup ∧ (∀ x ∈ done, x ∈ L) ∧ (∀ x ∈ L, ∀ kl, keyOf P k (f x).1 = some kl → (left kl = true ↔ x ∉ done))

theorem has_of {D : DataW Value} {kl : Lit} {v : Value} (h : D.atKey kl .nil = .held v) : Maps.has D kl = true := by
  cases hh : Maps.has D kl
  · rw [Maps.atKey_of_not_has hh] at h; cases h
  · rfl
theorem at_any {D : DataW Value} {kl : Lit} {v : Value} (h : D.atKey kl .nil = .held v) (z : DataW Value) : D.atKey kl z = .held v := by
  have hh := has_of h
  unfold DataW.atKey at h ⊢
  split at h
  · rename_i es
    split at h
    · rename_i p hp; simp [hp, h]
    · cases h
  · cases h
theorem key_inj {f : α → Value × Value} : ∀ {L : List α}, (L.map fun x => (f x).1).Nodup → ∀ {x y : α}, x ∈ L → y ∈ L → (f x).1 = (f y).1 → x = y := by
  intro L
  induction L with
  | nil => intro _ x y hx; cases hx
  | cons a l ih =>
    intro h x y hx hy e
    simp only [List.map_cons, List.nodup_cons, List.mem_map, not_exists, not_and] at h
    rcases List.mem_cons.1 hx with rfl | hx'
    · rcases List.mem_cons.1 hy with rfl | hy'
      · rfl
      · exact absurd e.symm (h.1 y hy')
    · rcases List.mem_cons.1 hy with rfl | hy'
      · exact absurd e (h.1 x hx')
      · exact ih h.2 hx' hy' e

theorem Holds.empty (f : α → Value × Value) : Holds P k f [] (.map []) := ⟨by simp, by simp, fun _ _ _ _ => rfl⟩
theorem MapIs.made (w : World) (f : α → Value × Value) : MapIs P k (w.alloc (.map #[] 0)) w.heap.size 0 f [] := ⟨_, World.ownsMap_made w P k vR, Holds.empty f⟩
theorem MapIs.lt {w : World} {b n : Nat} {f : α → Value × Value} {L : List α} (h : MapIs P k w b n f L) : b < w.heap.size := by
  obtain ⟨D, h, _⟩ := h
  exact h.lt
theorem MapIs.mono {w : World} {b n n' : Nat} {f : α → Value × Value} {L : List α} (h : MapIs P k w b n f L) (hn : n ≤ n') : MapIs P k w b n' f L := by
  obtain ⟨D, h, h2⟩ := h
  exact ⟨D, h.mono hn, h2⟩
theorem MapIs.kept {w w' : World} {b n : Nat} {f : α → Value × Value} {L : List α} {row : Option Nat} (h : MapIs P k w b n f L) (hg : w.grownBy w' row) (hne : some b ≠ row) : MapIs P k w' b n f L := by
  obtain ⟨D, h, h2⟩ := h
  exact ⟨D, h.kept hg hne, h2⟩
theorem MapIs.below {w w' : World} {b n : Nat} {f : α → Value × Value} {L : List α} (h : MapIs P k w b n f L) (hb : Below w.heap.size w w') : MapIs P k w' b n f L :=
  h.kept (row := none) ⟨hb.os, hb.tape, hb.output, hb.size, fun i hi _ => hb.block i hi⟩ (by simp)
theorem MapIs.alloc {w : World} {b n : Nat} {f : α → Value × Value} {L : List α} (h : MapIs P k w b n f L) (o : Obj) : MapIs P k (w.alloc o) b n f L := h.kept (World.grownBy_alloc w o none) (by simp)

theorem Holds.turn {f g : α → Value × Value} {L L' : List α} {D : DataW Value} (h : Holds P k f L D) (hn : (L'.map fun x => (g x).1).Nodup) (hall : ∀ c : Value × Value, (∃ x ∈ L', g x = c) ↔ (∃ x ∈ L, f x = c)) : Holds P k g L' D := by
  refine ⟨hn, fun x hx => ?_, fun key kl hk hne => h.2.2 key kl hk fun x hx e => ?_⟩
  · obtain ⟨y, hy, e⟩ := (hall (g x)).1 ⟨x, hx, rfl⟩
    rw [← e]; exact h.2.1 y hy
  · obtain ⟨y, hy, e2⟩ := (hall (f x)).2 ⟨x, hx, rfl⟩
    exact hne y hy (by rw [e2]; exact e)
theorem MapIs.turn {w : World} {b n : Nat} {f g : α → Value × Value} {L L' : List α} (h : MapIs P k w b n f L) (hn : (L'.map fun x => (g x).1).Nodup) (hall : ∀ c : Value × Value, (∃ x ∈ L', g x = c) ↔ (∃ x ∈ L, f x = c)) : MapIs P k w b n g L' := by
  obtain ⟨D, h, h2⟩ := h
  exact ⟨D, h, h2.turn hn hall⟩

theorem Holds.put (K : Keyed P k) {f g : α → Value × Value} {L L' : List α} {D : DataW Value} (h : Holds P k f L D) (hD : Maps.IsMap D) {key val : Value} {kl : Lit} (hkey : keyOf P k key = some kl)
    (hn : (L'.map fun x => (g x).1).Nodup) (hall : ∀ c : Value × Value, (∃ x ∈ L', g x = c) ↔ (c = (key, val) ∨ (c.1 ≠ key ∧ ∃ x ∈ L, f x = c))) : Holds P k g L' (D.put kl (.held val)) := by
  refine ⟨hn, fun x hx => ?_, fun key2 kl2 hk2 hne => ?_⟩
  · rcases (hall (g x)).1 ⟨x, hx, rfl⟩ with e | ⟨hne, y, hy, e⟩
    · rw [e]
      exact ⟨kl, hkey, Maps.atKey_put_same hD (K.key hkey) _ _⟩
    · obtain ⟨kl2, hk2, hat⟩ := h.2.1 y hy
      rw [e] at hk2 hat
      refine ⟨kl2, hk2, ?_⟩
      rw [Maps.atKey_put_other (fun e2 => hne (K.inj hk2 (by rw [e2]; exact hkey)))]
      exact hat
  · have hne2 : kl2 ≠ kl := fun e2 => by
      obtain ⟨x, hx, e⟩ := (hall (key, val)).2 (.inl rfl)
      exact hne x hx (by rw [e]; exact K.inj hkey (by rw [← e2]; exact hk2))
    rw [Maps.has_put_other hne2]
    refine h.2.2 key2 kl2 hk2 fun x hx e => ?_
    have hnk : (f x).1 ≠ key := fun e2 => hne2 (by rw [← e, e2, hkey] at hk2; exact (Option.some.inj hk2).symm)
    obtain ⟨y, hy, e3⟩ := (hall (f x)).2 (.inr ⟨hnk, x, hx, rfl⟩)
    exact hne y hy (by rw [e3]; exact e)

theorem isMap_of {w : World} {b n : Nat} {D : DataW Value} (h : w.ownsMap P k vR b n D) : Maps.IsMap D := by
  obtain ⟨es, clock, _, _, _, rfl⟩ := h
  exact ⟨_, rfl⟩

theorem RangeIs.left_eq {w : World} {b r n : Nat} {f : α → Value × Value} {L done : List α} {cnt : Nat} (h : RangeIs P k w b r n f L done cnt) : w.rangeLeft b r = cnt := by
  obtain ⟨D, left, h, _⟩ := h
  exact h.left_eq
theorem RangeIs.lt {w : World} {b r n : Nat} {f : α → Value × Value} {L done : List α} {cnt : Nat} (h : RangeIs P k w b r n f L done cnt) : r < w.heap.size := by
  obtain ⟨D, left, h, _⟩ := h
  exact h.lt
theorem RangeIs.map {w : World} {b r n : Nat} {f : α → Value × Value} {L done : List α} {cnt : Nat} (h : RangeIs P k w b r n f L done cnt) : MapIs P k w b n f L := by
  obtain ⟨D, left, h, h2, _⟩ := h
  exact ⟨D, h.owns, h2⟩
theorem RangeIs.kept {w w' : World} {b r n : Nat} {f : α → Value × Value} {L done : List α} {cnt : Nat} {row : Option Nat} (h : RangeIs P k w b r n f L done cnt) (hg : w.grownBy w' row) (hne : some b ≠ row) (hne2 : some r ≠ row) : RangeIs P k w' b r n f L done cnt := by
  obtain ⟨D, left, h, rest⟩ := h
  exact ⟨D, left, h.kept hg hne hne2, rest⟩
theorem RangeIs.below {w w' : World} {b r n : Nat} {f : α → Value × Value} {L done : List α} {cnt : Nat} (h : RangeIs P k w b r n f L done cnt) (hb : Below w.heap.size w w') : RangeIs P k w' b r n f L done cnt :=
  h.kept (row := none) ⟨hb.os, hb.tape, hb.output, hb.size, fun i hi _ => hb.block i hi⟩ (by simp) (by simp)
theorem RangeIs.alloc {w : World} {b r n : Nat} {f : α → Value × Value} {L done : List α} {cnt : Nat} (h : RangeIs P k w b r n f L done cnt) (o : Obj) : RangeIs P k (w.alloc o) b r n f L done cnt := h.kept (World.grownBy_alloc w o none) (by simp) (by simp)
theorem RangeIs.part {w : World} {b r n : Nat} {f : α → Value × Value} {L done : List α} {cnt : Nat} (h : RangeIs P k w b r n f L done cnt) : done.Nodup ∧ (∀ x ∈ done, x ∈ L) ∧ L.Nodup := by
  obtain ⟨D, left, _, h2, h3, h4, _⟩ := h
  exact ⟨h3, h4, List.Pairwise.of_map _ (fun _ _ h e => h (by rw [e])) h2.1⟩

theorem RangeIs.next (K : Keyed P k) {w : World} {b r n : Nat} {f : α → Value × Value} {L done : List α} {cnt : Nat} (h : RangeIs P k w b r n f L done cnt) (ty : TypeId) :
    ((∀ x ∈ L, x ∈ done) ∧ (Instr.next (.pointer (some ⟨r, 0, none⟩)) false ty).run P w = .ok (.tuple #[.bool false]) w) ∨
    ∃ x w' cnt', x ∈ L ∧ x ∉ done ∧ RangeIs P k w' b r n f L (done ++ [x]) cnt' ∧ cnt' < cnt ∧ w.grownBy w' (some r) ∧ w'.heap.size = w.heap.size ∧
      (Instr.next (.pointer (some ⟨r, 0, none⟩)) false ty).run P w = .ok (.tuple #[.bool true, (f x).1, (f x).2]) w' ∧ (Instr.entry (.pointer (some ⟨r, 0, none⟩))).run P w' = .ok (.tuple #[(f x).1, (f x).2]) w' := by
  obtain ⟨D, left, hr, hH, hd, hs, hl⟩ := h
  rcases hr.next K ty with ⟨_, hl0, hrun⟩ | ⟨key, v, kl, y, w', cnt', hkey, hlk, hv, hat, hrun, hrg, hlt, hgr, hsz, hen⟩
  · refine .inl ⟨fun x hx => ?_, hrun⟩
    obtain ⟨kl, hk, _⟩ := hH.2.1 x hx
    refine Classical.byContradiction fun hn => ?_
    have := (hl x hx kl hk).2 hn
    rw [hl0] at this
    cases this
  · have hy : y.1 = .held v := by cases hv; rfl
    have hex : ∃ x ∈ L, (f x).1 = key := by
      refine Classical.byContradiction fun hn => ?_
      have h0 := hH.2.2 key kl hkey fun x hx e => hn ⟨x, hx, e⟩
      have h1 := hat .nil
      rw [Maps.atKey_of_not_has h0, hy] at h1
      cases h1
    obtain ⟨x, hx, hxk⟩ := hex
    obtain ⟨kl2, hk2, hat2⟩ := hH.2.1 x hx
    have ekl : kl2 = kl := by rw [hxk, hkey] at hk2; exact (Option.some.inj hk2).symm
    subst ekl
    have hxv : (f x).2 = v := by rw [hat, hy] at hat2; cases hat2; rfl
    have hnd : x ∉ done := (hl x hx kl2 hk2).1 hlk
    refine .inr ⟨x, w', cnt', hx, hnd, ⟨D, _, hrg, hH, ?_, ?_, fun z hz kl3 hk3 => ?_⟩, hlt, hgr, hsz, by rw [hxk, hxv]; exact hrun, by rw [hxk, hxv]; exact hen⟩
    · rw [List.nodup_append]
      refine ⟨hd, by simp, fun a ha c hc e => ?_⟩
      simp at hc
      subst hc
      exact hnd (e ▸ ha)
    · intro z hz
      rcases List.mem_append.1 hz with hz | hz
      · exact hs z hz
      · simp at hz; rw [hz]; exact hx
    · simp only [Bool.and_eq_true, Bool.not_eq_true', List.mem_append, List.mem_singleton, not_or]
      by_cases hzx : z = x
      · subst hzx
        have e3 : kl3 = kl2 := by rw [hk2] at hk3; exact (Option.some.inj hk3).symm
        subst e3
        rw [WideAt.sameKey_self (K.key hk3)]
        simp
      · have e3 : kl3 ≠ kl2 := fun e => hzx (key_inj hH.1 hz hx (K.inj hk3 (by rw [e]; exact hk2)))
        rw [Maps.sameKey_ne e3, hl z hz kl3 hk3]
        simp [hzx]
end

section
variable {α : Type} {P : Program} {w : World} {ops : Array Oper} {rest : List Oper} {o : Oper} {a : Act} {Q : Exit → Act → World → Prop}

/-- A store. -/
theorem wpl_put (hg : o.guard = none) (m x v : Operand) (t : TypeId) (hop : o.op = Op.mapUpdate t m x v) {k e : TypeId} (K : Keyed P k) (ht : P.underlying t = some (.map k e)) {b n : Nat} {f g : α → Value × Value} {L : List α} (L' : List α)
    (hm : a.eval m = .map (some b)) (h : MapIs P k w b n f L) (hn : n < maxLen) {key val : Value} {kl : Lit} (hx : a.eval x = key) (hv : a.eval v = val) (hkey : keyOf P k key = some kl)
    (hN : (L'.map fun x => (g x).1).Nodup) (hall : ∀ c : Value × Value, (∃ x ∈ L', g x = c) ↔ (c = (key, val) ∨ (c.1 ≠ key ∧ ∃ x ∈ L, f x = c)))
    (hK : ∀ w', MapIs P k w' b (n + 1) g L' → w.grownBy w' (some b) → wpList P ops Q rest (a.put o.dst undef) w') : wpList P ops Q (o :: rest) a w := by
  obtain ⟨D, hown, hH⟩ := h
  exact wpList_mapUpdate_own w hg m x v t hop k e K ht vR b n D hm hown hn key val kl hx hv hkey (.held val) [] rfl fun w' h1 h2 => hK w' ⟨_, h1, hH.put K (isMap_of hown) hkey hN hall⟩ h2

theorem add_all {f : α → Value × Value} {L : List α} {x : α} {key val : Value} (e : f x = (key, val)) (hne : ∀ y ∈ L, (f y).1 ≠ key) (c : Value × Value) : (∃ y ∈ L ++ [x], f y = c) ↔ (c = (key, val) ∨ (c.1 ≠ key ∧ ∃ y ∈ L, f y = c)) := by
  constructor
  · rintro ⟨y, hy, rfl⟩
    rcases List.mem_append.1 hy with hy | hy
    · exact .inr ⟨hne y hy, y, hy, rfl⟩
    · simp at hy; rw [hy]; exact .inl e
  · rintro (rfl | ⟨_, y, hy, rfl⟩)
    · exact ⟨x, by simp, e⟩
    · exact ⟨y, by simp [hy], rfl⟩
theorem add_nodup {f : α → Value × Value} {L : List α} {x : α} (h : (L.map fun x => (f x).1).Nodup) (hne : ∀ y ∈ L, (f y).1 ≠ (f x).1) : ((L ++ [x]).map fun x => (f x).1).Nodup := by
  rw [List.map_append, List.nodup_append]
  refine ⟨h, by simp, fun a ha b hb e => ?_⟩
  obtain ⟨y, hy, rfl⟩ := List.mem_map.1 ha
  simp at hb
  exact hne y hy (by rw [e, hb])
theorem MapIs.nodup {k : TypeId} {b n : Nat} {f : α → Value × Value} {L : List α} (h : MapIs P k w b n f L) : (L.map fun x => (f x).1).Nodup := by
  obtain ⟨D, _, h, _⟩ := h
  exact h
/-- A store at a new key. -/
theorem wpl_add (hg : o.guard = none) (m x v : Operand) (t : TypeId) (hop : o.op = Op.mapUpdate t m x v) {k e : TypeId} (K : Keyed P k) (ht : P.underlying t = some (.map k e)) {b n : Nat} {f : α → Value × Value} {L : List α} (y : α)
    (hm : a.eval m = .map (some b)) (h : MapIs P k w b n f L) (hn : n < maxLen) {key val : Value} {kl : Lit} (hx : a.eval x = key) (hv : a.eval v = val) (hkey : keyOf P k key = some kl) (hy : f y = (key, val)) (hne : ∀ z ∈ L, (f z).1 ≠ key)
    (hK : ∀ w', MapIs P k w' b (n + 1) f (L ++ [y]) → w.grownBy w' (some b) → wpList P ops Q rest (a.put o.dst undef) w') : wpList P ops Q (o :: rest) a w :=
  wpl_put hg m x v t hop K ht (L ++ [y]) hm h hn hx hv hkey (add_nodup h.nodup (by rw [hy]; exact hne)) (add_all hy hne) hK

/-- A look-up. -/
theorem wpl_get (hg : o.guard = none) (m x : Operand) (t : TypeId) (hop : o.op = Op.lookup t m x false) {k e : TypeId} (K : Keyed P k) (ht : P.underlying t = some (.map k e)) {z : Value} (hz : (zeroValue e).run P w = .ok z w) {b n : Nat} {f : α → Value × Value} {L : List α}
    (hm : a.eval m = .map (some b)) (h : MapIs P k w b n f L) {key : Value} {kl : Lit} (hx : a.eval x = key) (hkey : keyOf P k key = some kl)
    (hK : ∀ v, ((∃ y ∈ L, f y = (key, v)) ∨ (v = z ∧ ∀ y ∈ L, (f y).1 ≠ key)) → wpList P ops Q rest (a.put o.dst v) w) : wpList P ops Q (o :: rest) a w := by
  obtain ⟨D, hown, hH⟩ := h
  refine wpList_plain hg fun K' hK' => ?_
  obtain ⟨v, ps, hrun, hv⟩ := hown.lookup K ht hz (zd := .held z) (zp := []) rfl hkey
  unfold Oper.wp
  simp [execOp, hop, hm, hx, hrun, Result.andThen]
  refine hK' _ _ (hK v ?_)
  have hv2 : DataW.held v = D.atKey kl (.held z) := by unfold vR at hv; simp only [Option.some.injEq, Prod.mk.injEq] at hv; exact hv.1
  by_cases hex : ∃ y ∈ L, (f y).1 = key
  · obtain ⟨y, hy, e⟩ := hex
    obtain ⟨kl2, hk2, hat⟩ := hH.2.1 y hy
    rw [e, hkey] at hk2
    cases hk2
    rw [at_any hat] at hv2
    cases hv2
    exact .inl ⟨y, hy, by rw [← e]⟩
  · have h0 := hH.2.2 key kl hkey fun x hx e => hex ⟨x, hx, e⟩
    rw [Maps.atKey_of_not_has h0] at hv2
    cases hv2
    exact .inr ⟨rfl, fun y hy e => hex ⟨y, hy, e⟩⟩

/-- 'range m'. -/
theorem wpl_range (hg : o.guard = none) (m : Operand) (t : TypeId) (hop : o.op = Op.range t m) {k e : TypeId} (K : Keyed P k) (ht : P.underlying t = some (.map k e)) {b n : Nat} {f : α → Value × Value} {L : List α}
    (hm : a.eval m = .map (some b)) (h : MapIs P k w b n f L)
    (hK : ∀ w' cnt, RangeIs P k w' b w.heap.size n f L [] cnt → Below w.heap.size w w' → w'.heap.size = w.heap.size + 1 → wpList P ops Q rest (a.put o.dst (.pointer (some ⟨w.heap.size, 0, none⟩))) w') : wpList P ops Q (o :: rest) a w := by
  obtain ⟨D, hown, hH⟩ := h
  exact wpList_range_own w hg m t hop k e K ht vR b n D hm hown fun w' h1 h2 h3 =>
    hK w' _ ⟨D, _, h1, hH, List.nodup_nil, by simp, fun x hx kl hk => by
      obtain ⟨kl2, hk2, hat⟩ := hH.2.1 x hx
      rw [hk] at hk2
      cases hk2
      simp [has_of hat]⟩ ⟨h2.os, h2.tape, h2.output, h2.size, fun i hi => h2.block i hi (by simp)⟩ h3

/-- The step. -/
theorem wpl_next (hg : o.guard = none) (it : Operand) (hop : o.op = Op.next it false) {k : TypeId} (K : Keyed P k) {b r n : Nat} (fk fv : α → Value) {L done : List α} {cnt : Nat}
    (hit : a.eval it = .pointer (some ⟨r, 0, none⟩)) (h : RangeIs P k w b r n (fun x => (fk x, fv x)) L done cnt)
    (hDone : (∀ x ∈ L, x ∈ done) → wpList P ops Q rest (a.put o.dst (.tuple #[.bool false])) w)
    (hMore : ∀ x w' cnt', x ∈ L → x ∉ done → RangeIs P k w' b r n (fun x => (fk x, fv x)) L (done ++ [x]) cnt' → cnt' < cnt → w.grownBy w' (some r) → w'.heap.size = w.heap.size →
      (Instr.entry (.pointer (some ⟨r, 0, none⟩))).run P w' = .ok (.tuple #[fk x, fv x]) w' → wpList P ops Q rest (a.put o.dst (.tuple #[.bool true, fk x, fv x])) w') : wpList P ops Q (o :: rest) a w := by
  refine wpList_plain hg fun K' hK' => ?_
  unfold Oper.wp
  rcases h.next K o.type with ⟨hd, hrun⟩ | ⟨x, w', cnt', h1, h2, h3, h4, h5, h6, hrun, hen⟩
  · simp [execOp, hop, hit, hrun, Result.andThen]
    exact hK' _ _ (hDone hd)
  · simp [execOp, hop, hit, hrun, Result.andThen]
    exact hK' _ _ (hMore x w' cnt' h1 h2 h3 h4 h5 h6 hen)
end
end Go.Proofs.YtipigfgnpfhdbaaGreatDoor.M
