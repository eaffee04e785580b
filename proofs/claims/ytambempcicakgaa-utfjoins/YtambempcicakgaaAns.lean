/- What 'answers' answers: true, whatever the world; nothing that was there is changed. -/
import Derived.Test.YtambempcicakgaaDec
namespace Go.Proofs.Ytambempcicakgaa.U
open Go.RowKit

/-- A row of numbers that the call owns, as a slice's value. -/
theorem own_rd {w : World} {base : Nat} {e : TypeId} {k : IntKind} {v : Value} {l : List Int} (h : w.ownsRow base e 1 v l.length (l.map (Value.int k))) :
    ∃ A cap, v = .slice A l.length cap ∧ l.length ≤ cap ∧ Rd w w.heap.size k A l := by
  rcases h.2 with ⟨rfl, h0⟩ | ⟨g, cap, cur, rfl, hb, hg, hc, _, _, _⟩
  · refine ⟨none, 0, by rw [h0], by omega, fun i x hx => ?_⟩
    have : l = [] := List.eq_nil_of_length_eq_zero h0
    subst this
    simp at hx
  · refine ⟨_, cap, rfl, hc, fun i x hx => ⟨g, 0, rfl, (Array.getElem?_eq_some_iff.1 hg).1, ?_⟩⟩
    have := h.cells (g := g) rfl i (.int k x) (by simp [hx])
    have hadd : (⟨g, 0, none⟩ : Addr).add i = ⟨g, 0 + i, none⟩ := by unfold Addr.add; split <;> simp_all
    rw [hadd] at this
    exact this

theorem dec_e9 : Decoded [195, 169] [233] 0 0 := by
  refine .inl ⟨rfl, rfl, fun r hr => ?_, ?_⟩
  · rw [List.mem_singleton.1 hr]; decide
  · decide

set_option maxHeartbeats 400000 in
theorem answers_any (w : World) : Calls Try.prog 10 #[] w fun e w' => e = .returned (.bool true) ∧ Below w.heap.size w w' := by
  have hrd : Rd (w.alloc (.cells #[.int .u8 195, .int .u8 169] 5)) (w.heap.size + 1) .u8 (some ⟨w.heap.size, 0, none⟩) [195, 169] := fun i x hx => by
    refine ⟨w.heap.size, 0, rfl, by omega, ?_⟩
    match i, hx with
    | 0, hx => simp at hx; subst hx; simp
    | 1, hx => simp at hx; subst hx; simp
    | i + 2, hx => simp at hx
  have HRD := Lib.hid hrd
  clear hrd
  go_enter Try.func10, Try.ntmps10
  go_wp2_with fail
  refine (decode_any _ [195, 169] 2 2 _ rfl (by simpa using HRD.out) (by intro x hx; simp at hx; omega) (by omega) (by omega)).mono ?_
  rintro e w' ⟨v, out, E, n, rfl, hd, hown, hbel⟩
  obtain ⟨rfl, rfl, rfl⟩ := decoded_one hd dec_e9
  obtain ⟨A, cap, rfl, hcap, hr⟩ := own_rd hown
  obtain ⟨g, off, rfl, hg, hc⟩ := hr 0 233 rfl
  have hc' : w'.cell? ⟨g, off, none⟩ = some (.int .i32 233) := hc
  have hbw : Below w.heap.size w w' := (((Below.refl _ _).alloc (Nat.le_refl _) _).trans (hbel.mono (by simp)))
  have hz : w.heap.size ≤ w'.heap.size := hbw.size
  clear hc hr hown hbel hd HRD
  go_wp2_with (go_at_call 19; (with_reducible refine (len_is _ 3 _ (by decide)).mono ?_); rintro e w' ⟨rfl, rfl⟩)
  go_ret
  exact ⟨rfl, hbw.alloc hz _⟩
end Go.Proofs.Ytambempcicakgaa.U
