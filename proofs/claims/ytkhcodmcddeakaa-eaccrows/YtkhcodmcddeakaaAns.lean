/- What the laws ask of Rune and Codes, with letters; what 'answers' answers. No condition. -/
import Derived.Test.YtkhcodmcddeakaaCodes
import Derived.OpenShut
namespace Go.Proofs.Ytkhcodmcddeakaa.U
open Go.RowKit
set_option linter.unusedVariables false

theorem rune_at {n r : Int} {b : Bool} (h : runeL n = (r, b)) (w : World) : Calls Try.prog 6 #[.int .i64 n] w fun e w' => e = .returned (.tuple #[.int .i32 r, .bool b]) ∧ Bel w w' := by
  have := rune_is n w
  rwa [h] at this
theorem codes_at {r : Int} {l : List Int} {m : Nat} (h : codesL r 10 = l) (hm : l.length = m) (w : World) : Calls Try.prog 8 #[.int .i32 r] w fun e w' => ∃ A cap, e = .returned (.slice A m cap) ∧ Rd w' w'.heap.size .i64 A l ∧ Bel w w' := by
  refine (codes_is r w).mono ?_
  rintro e w' ⟨v, rfl, ho, hb⟩
  obtain ⟨A, cap, rfl, _, hr, _⟩ := ho.rd
  rw [h] at hr ⊢
  rw [hm]
  exact ⟨A, cap, rfl, hr, hb⟩

set_option maxHeartbeats 1000000 in
theorem answers_any (w : World) : Calls Try.prog 7 #[] w fun e w' => e = .returned (.bool true) ∧ Bel w w' := by
  go_enter Try.func7, Try.ntmps7
  go_wp2_with (first
    | (go_at_call 6; (with_reducible refine (rune_at (n := 2175009) (r := 19968) (b := true) (by decide +kernel) _).mono ?_); rintro e w1 ⟨rfl, hb1⟩)
    | (go_at_call 8; (with_reducible refine (codes_at (r := 19968) (l := [2175009, 2568225]) (m := 2) (by decide +kernel) rfl _).mono ?_); rintro e w2 ⟨A, cap, rfl, hr, hb2⟩)
    | fail)
  go_ret
  exact ⟨rfl, hb1.trans hb2⟩

/-- A number of three bytes, each from 33 to 126. -/
def okc (c : Int) : Bool := decide (33 ≤ c / 65536) && decide (c / 65536 ≤ 126) && decide (33 ≤ c / 256 % 256) && decide (c / 256 % 256 ≤ 126) && decide (33 ≤ c % 256) && decide (c % 256 ≤ 126)
theorem tab_ok : ∀ k, k < 10 → (tab k).all (fun p => okc p.1) = true := by decide +kernel
theorem rune_ok {n r : Int} (h : runeL n = (r, true)) : okc n = true := by
  have hm := look_mem h
  cases hb : best n 10 with
  | none => rw [hb] at hm; simp [tabO] at hm
  | some k =>
    rw [hb] at hm
    exact List.all_eq_true.1 (tab_ok k (best_lt hb)) _ hm
theorem fit8 {x : Int} (h : (Lit.int .u8 x).wf = true) : 0 ≤ x ∧ x < 256 := by
  have := bounds_u8 h
  omega
theorem fit32 {x : Int} (h : (Lit.int .u32 x).wf = true) : 0 ≤ x ∧ x < 4294967296 := by
  have := bounds_u32 h
  omega
end Go.Proofs.Ytkhcodmcddeakaa.U
