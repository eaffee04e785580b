/- What the reference's Next answers: the sets behind the escape that stands there, or that none does. -/
import Derived.Test.YthdggdjaicfapaaDoorENext
import Derived.Test.YthdggdjaicfapaaDoorRDes
namespace Go.Proofs.YthdggdjaicfapaaDoor.U
open Go.RowKit
set_option linter.unusedVariables false

set_option maxRecDepth 100000 in
set_option maxHeartbeats 4000000 in
theorem rnext_arg (A : Option Addr) (n c : Nat) (l : List Int) (at_ s0 s1 : Int) (w : World) (hA : Rd w w.heap.size .u8 A l) (hn : l.length = n) (hc : n ≤ c) (hat : NotThere l at_) :
    Calls Tryd.prog 9 #[.slice A n c, .int .i64 at_, .agg #[.int .i64 s0, .int .i64 s1]] w (NextNo w 1 at_) := by
  have HX := Lib.hid (bx_made w s0 s1)
  rcases hat with h | ⟨k, rfl, hk⟩
  · clear hA hn hc
    go_enter Tryd.func9, Tryd.ntmps9
    go_wp2
    refine bodyPost_ret (v := .tuple #[.agg #[.int .i64 0, .int .i64 0], .int .i64 0, .agg #[.int .i64 1, .int .i64 at_]]) (by simp [results, Tryd.results9, go_sem]) rfl ⟨rfl, (((Bel.refl w).alloc _).alloc _).alloc _⟩
  · have q0 : ¬ (k : Int) < 0 := by omega
    by_cases hlt : k < n
    · obtain ⟨x, hx⟩ : ∃ x, l[k]? = some x := ⟨l[k]'(by omega), by simp⟩
      obtain ⟨g, off, rfl, hg, hcell⟩ := hA k x hx
      have hne : (x != 27) = true := by
        rw [hx] at hk
        simpa using hk
      have q1 : decide ((n : Int) ≤ (k : Int)) = false := decide_eq_false (by omega)
      have q2 : (k : Int) < (n : Int) := by omega
      have q3 : (0 : Int) ≤ (k : Int) := by omega
      have hcell' := (Below.cell HX.out.2.2.2.2.2.2.2 (p := ⟨g, off + k, none⟩) hg).trans hcell
      clear hA hn hc hx hk hlt hcell
      go_enter Tryd.func9, Tryd.ntmps9
      go_wp2
      refine bodyPost_ret (v := .tuple #[.agg #[.int .i64 0, .int .i64 0], .int .i64 0, .agg #[.int .i64 1, .int .i64 k]]) (by simp [results, Tryd.results9, go_sem]) rfl ⟨rfl, (((Bel.refl w).alloc _).alloc _).alloc _⟩
    · have q1 : decide ((n : Int) ≤ (k : Int)) = true := decide_eq_true (by omega)
      have q2 : (n : Int) ≤ (k : Int) := by omega
      clear hA hn hc hk hlt
      go_enter Tryd.func9, Tryd.ntmps9
      go_wp2
      refine bodyPost_ret (v := .tuple #[.agg #[.int .i64 0, .int .i64 0], .int .i64 0, .agg #[.int .i64 1, .int .i64 k]]) (by simp [results, Tryd.results9, go_sem]) rfl ⟨rfl, (((Bel.refl w).alloc _).alloc _).alloc _⟩

/-- Every text begins with a first one of the escapes, or with none. -/
theorem first_esc (r : List Int) : ∀ L : List Esc, (∀ e ∈ L, ¬ e.1 <+: r) ∨ ∃ K e, L[K]? = some e ∧ e.1 <+: r ∧ ∀ f ∈ L.take K, ¬ f.1 <+: r
  | [] => .inl (by simp)
  | e :: L => by
    by_cases h : e.1 <+: r
    · exact .inr ⟨0, e, rfl, h, by simp⟩
    · rcases first_esc r L with h1 | ⟨K, f, h1, h2, h3⟩
      · exact .inl (by
          intro x hx
          rcases List.mem_cons.1 hx with rfl | hx
          · exact h
          · exact h1 x hx)
      · exact .inr ⟨K + 1, f, by simpa using h1, h2, by
          intro x hx
          rw [List.take_succ_cons] at hx
          rcases List.mem_cons.1 hx with rfl | hx
          · exact h
          · exact h3 x hx⟩

theorem str_ne {a b : List Int} (ha : ∀ x ∈ a, 0 ≤ x ∧ x < 256) (hb : ∀ x ∈ b, 0 ≤ x ∧ x < 256) (h : a ≠ b) : ((str a).toList == (str b).toList) = false := by
  rw [str_beq ha hb, decide_eq_false h]

/-- What is known of the first K escapes. -/
def RNKnown (l : List Int) (k K : Nat) (o : Option Esc) : Prop := (∀ e ∈ escs.take K, ¬ e.1 <+: l.drop k) ∧ match o with
  | none => K = 40
  | some e => escs[K]? = some e ∧ e.1 <+: l.drop k
theorem rn_known (l : List Int) (k : Nat) : ∃ K o, RNKnown l k K o ∧ K ≤ 40 := by
  rcases first_esc (l.drop k) escs with h | ⟨K, e, h1, h2, h3⟩
  · exact ⟨40, none, ⟨fun e he => h e (List.mem_of_mem_take he), rfl⟩, Nat.le_refl _⟩
  · exact ⟨K, some e, ⟨h3, h1, h2⟩, by have := (List.getElem?_eq_some_iff.1 h1).1; rw [escs_len] at this; omega⟩
def RNRel (W : World) (K : Nat) (i : Value) (w : World) : Prop := ∃ j q : Nat, i = .int .i64 j ∧ j ≤ K ∧ w = W.drewN q
end Go.Proofs.YthdggdjaicfapaaDoor.U
