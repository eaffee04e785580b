/- What escape.Next answers: the sets behind the escape that stands there, or that none does. -/
import Derived.Test.YthdggdjaicfapaaDoorETell
namespace Go.Proofs.YthdggdjaicfapaaDoor.U
open Go.RowKit
set_option linter.unusedVariables false

/-- Three places of the call's own, the first of two numbers, the others of noughts. -/
def Bx (w W : World) (a b c : Nat) (s0 s1 : Int) : Prop := w.heap.size ≤ a ∧ a < b ∧ b < c ∧ c < W.heap.size
  ∧ (W.cell? ⟨a, 0, none⟩ = some (.int .i64 s0) ∧ W.cell? ⟨a, 1, none⟩ = some (.int .i64 s1) ∧ W.frozen? ⟨a, 0, none⟩ = false ∧ W.frozen? ⟨a, 1, none⟩ = false)
  ∧ (W.cell? ⟨b, 0, none⟩ = some (.int .i64 0) ∧ W.cell? ⟨b, 1, none⟩ = some (.int .i64 0) ∧ W.frozen? ⟨b, 0, none⟩ = false ∧ W.frozen? ⟨b, 1, none⟩ = false)
  ∧ (W.cell? ⟨c, 0, none⟩ = some (.int .i64 0) ∧ W.cell? ⟨c, 1, none⟩ = some (.int .i64 0) ∧ W.frozen? ⟨c, 0, none⟩ = false ∧ W.frozen? ⟨c, 1, none⟩ = false)
  ∧ Bel w W
theorem box_keep {W W' : World} {p : Nat} {x y : Int} (hb : Bel W W') (hp : p < W.heap.size) (h : W.cell? ⟨p, 0, none⟩ = some (.int .i64 x) ∧ W.cell? ⟨p, 1, none⟩ = some (.int .i64 y) ∧ W.frozen? ⟨p, 0, none⟩ = false ∧ W.frozen? ⟨p, 1, none⟩ = false) :
    W'.cell? ⟨p, 0, none⟩ = some (.int .i64 x) ∧ W'.cell? ⟨p, 1, none⟩ = some (.int .i64 y) ∧ W'.frozen? ⟨p, 0, none⟩ = false ∧ W'.frozen? ⟨p, 1, none⟩ = false :=
  ⟨(Below.cell hb (p := ⟨p, 0, none⟩) hp).trans h.1, (Below.cell hb (p := ⟨p, 1, none⟩) hp).trans h.2.1, (Below.frozen hb (p := ⟨p, 0, none⟩) hp).trans h.2.2.1, (Below.frozen hb (p := ⟨p, 1, none⟩) hp).trans h.2.2.2⟩
theorem Bx.bel {w W W' : World} {a b c : Nat} {s0 s1 : Int} (h : Bx w W a b c s0 s1) (hb : Bel W W') : Bx w W' a b c s0 s1 := by
  obtain ⟨h1, h2, h3, h4, ha, hb', hc, hw⟩ := h
  exact ⟨h1, h2, h3, by have := Below.size hb; omega, box_keep hb (by omega) ha, box_keep hb (by omega) hb', box_keep hb h4 hc, hw.trans hb⟩
theorem bx_made (w : World) (s0 s1 : Int) : Bx w (((w.alloc (.cells #[.int .i64 s0, .int .i64 s1] 24)).alloc (.cells #[.int .i64 0, .int .i64 0] 24)).alloc (.cells #[.int .i64 0, .int .i64 0] 28)) w.heap.size (w.heap.size + 1) (w.heap.size + 1 + 1) s0 s1 := by
  refine ⟨by omega, by omega, by omega, by simp, ?_, ?_, ?_, (((Bel.refl w).alloc _).alloc _).alloc _⟩
  all_goals refine ⟨?_, ?_, ?_, ?_⟩
  all_goals simp [go_sem]

/-- The sets behind it. -/
def newst (s0 s1 side set : Int) : Value := if side = 0 then .agg #[.int .i64 set, .int .i64 s1] else .agg #[.int .i64 s0, .int .i64 set]
def NextYes (w : World) (s0 s1 side set : Int) (n : Nat) (e : Ending) (w' : World) : Prop := e = .returned (.tuple #[newst s0 s1 side set, .int .i64 n, .agg #[.int .i64 0, .int .i64 0]]) ∧ Bel w w'
def NextNo (w : World) (x at_ : Int) (e : Ending) (w' : World) : Prop := e = .returned (.tuple #[.agg #[.int .i64 0, .int .i64 0], .int .i64 0, .agg #[.int .i64 x, .int .i64 at_]]) ∧ Bel w w'
/-- No byte 27 stands there. -/
def NotThere (l : List Int) (at_ : Int) : Prop := at_ < 0 ∨ ∃ k : Nat, at_ = k ∧ l[k]? ≠ some 27

theorem four_sets {w W : World} {b c : Nat} (h : Bel w W) (hb : w.heap.size ≤ b) (hc : w.heap.size ≤ c) (x1 x2 x3 x4 : Value) :
    Bel w ((((W.setCell ⟨b, 0, none⟩ x1).setCell ⟨b, 1, none⟩ x2).setCell ⟨c, 0, none⟩ x3).setCell ⟨c, 1, none⟩ x4) :=
  (((h.setCell (by show _ ≤ b; omega) _).setCell (by show _ ≤ b; omega) _).setCell (by show _ ≤ c; omega) _).setCell (by show _ ≤ c; omega) _
theorem five_sets {w W : World} {a b c i : Nat} (h : Bel w W) (ha : w.heap.size ≤ a) (hb : w.heap.size ≤ b) (hc : w.heap.size ≤ c) (x0 x1 x2 x3 x4 : Value) :
    Bel w (((((W.setCell ⟨a, i, none⟩ x0).setCell ⟨b, 0, none⟩ x1).setCell ⟨b, 1, none⟩ x2).setCell ⟨c, 0, none⟩ x3).setCell ⟨c, 1, none⟩ x4) :=
  ((((h.setCell (by show _ ≤ a; omega) _).setCell (by show _ ≤ b; omega) _).setCell (by show _ ≤ b; omega) _).setCell (by show _ ≤ c; omega) _).setCell (by show _ ≤ c; omega) _

set_option maxRecDepth 100000 in
set_option maxHeartbeats 4000000 in
theorem next_arg (A : Option Addr) (n c : Nat) (l : List Int) (at_ s0 s1 : Int) (w : World) (hA : Rd w w.heap.size .u8 A l) (hn : l.length = n) (hc : n ≤ c) (hat : NotThere l at_) :
    Calls Tryd.prog 8 #[.slice A n c, .int .i64 at_, .agg #[.int .i64 s0, .int .i64 s1]] w (NextNo w 1 at_) := by
  have HX := Lib.hid (bx_made w s0 s1)
  rcases hat with h | ⟨k, rfl, hk⟩
  · clear hA hn hc
    go_enter Tryd.func8, Tryd.ntmps8
    go_wp2
    refine bodyPost_ret (v := .tuple #[.agg #[.int .i64 0, .int .i64 0], .int .i64 0, .agg #[.int .i64 1, .int .i64 at_]]) (by simp [results, Tryd.results8, go_sem]) rfl ⟨rfl, (((Bel.refl w).alloc _).alloc _).alloc _⟩
  · have q0 : ¬ (k : Int) < 0 := by omega
    by_cases hlt : k < n
    · obtain ⟨x, hx⟩ : ∃ x, l[k]? = some x := ⟨l[k]'(by omega), by simp⟩
      obtain ⟨g, off, rfl, hg, hcell⟩ := hA k x hx
      have hne : (x != 27) = true := by
        rw [hx] at hk
        simpa using hk
      have q1 : decide ((n : Int) ≤ (k : Int)) = false := decide_eq_false (by omega)
      have q2 : (k : Int) < (n : Int) := by omega
      have q3 : (0 : Int) ≤ (k : Int) := by omega
      have hcell' := (Below.cell HX.out.2.2.2.2.2.2.2 (p := ⟨g, off + k, none⟩) hg).trans hcell
      clear hA hn hc hx hk hlt hcell
      go_enter Tryd.func8, Tryd.ntmps8
      go_wp2
      refine bodyPost_ret (v := .tuple #[.agg #[.int .i64 0, .int .i64 0], .int .i64 0, .agg #[.int .i64 1, .int .i64 k]]) (by simp [results, Tryd.results8, go_sem]) rfl ⟨rfl, (((Bel.refl w).alloc _).alloc _).alloc _⟩
    · have q1 : decide ((n : Int) ≤ (k : Int)) = true := decide_eq_true (by omega)
      have q2 : (n : Int) ≤ (k : Int) := by omega
      clear hA hn hc hk hlt
      go_enter Tryd.func8, Tryd.ntmps8
      go_wp2
      refine bodyPost_ret (v := .tuple #[.agg #[.int .i64 0, .int .i64 0], .int .i64 0, .agg #[.int .i64 1, .int .i64 k]]) (by simp [results, Tryd.results8, go_sem]) rfl ⟨rfl, (((Bel.refl w).alloc _).alloc _).alloc _⟩
end Go.Proofs.YthdggdjaicfapaaDoor.U
