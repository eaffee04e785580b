/- UtfSizes answers true at every number; nothing that was there is changed. -/
import Derived.Test.YtambempcicakgaaAns
namespace Go.Proofs.Ytambempcicakgaa.U
open Go.RowKit

theorem enc_one_len {r : Int} {out : List Int} {E : Int} {n : Nat} (h : Encoded [r] out E n) : out.length = ln r := by
  rcases h with ⟨_, _, _, rfl⟩ | ⟨_, rfl, rs, s, t, ha, hs, hl, _⟩
  · simp [encAll, enc_length]
  · cases rs with
    | nil =>
      simp only [List.nil_append, List.cons.injEq] at hl
      rw [hl.1, ln_none hs]; rfl
    | cons x rs => simp at hl

/-- A slice of one number, laid into a new block. -/
theorem rd_new (w : World) (k : IntKind) (t : TypeId) (l : List Int) : Rd (w.alloc (.cells (l.map (Value.int k)).toArray t)) (w.alloc (.cells (l.map (Value.int k)).toArray t)).heap.size k (some ⟨w.heap.size, 0, none⟩) l := fun i x hx => by
  refine ⟨w.heap.size, 0, rfl, by simp, ?_⟩
  rw [cell_of_row _ w.heap.size (0 + i) _ t (0, 0) (heap_alloc_new w _)]
  simp [hx]

set_option maxHeartbeats 400000 in
theorem walk_sizes (r : Int) (w : World) :
    Calls Try.prog 5 #[.int .i32 r] w fun e w' => e = .returned (.bool true) ∧ Below w.heap.size w w' := by
  have hrd := rd_new w .i32 21 [r]
  have HRD := Lib.hid hrd
  clear hrd
  obtain ⟨m, hm⟩ : ∃ m : Int, (ln r : Int) = m := ⟨_, rfl⟩
  obtain ⟨b, hb⟩ : ∃ b : Bool, scB r = b := ⟨_, rfl⟩
  have HM := Lib.hid hm
  have HB := Lib.hid hb
  clear hm hb
  go_enter Try.func5, Try.ntmps5
  go_wp2_with fail
  refine (encode_any _ [r] 1 _ HRD.out (by simp)).mono ?_
  rintro e w' ⟨v, out, E, n, rfl, hd, hown, hbel⟩
  have hol := enc_one_len hd
  obtain ⟨A, cap, rfl, hcap, hr⟩ := own_rd (k := .u8) hown
  have hbw : Below w.heap.size w w' := (((Below.refl _ _).alloc (Nat.le_refl _) _).trans (hbel.mono (by simp)))
  have hz : w.heap.size ≤ w'.heap.size := hbw.size
  clear hr hown hbel HRD hd
  obtain ⟨k, hk⟩ : ∃ k, out.length = k := ⟨_, rfl⟩
  rw [hk] at hol
  rw [hk]
  have hkm : (k : Int) = m := by rw [hol]; exact HM.out
  have hkm' : ((k : Int) == m) = true := by simp [hkm]
  clear hk hol hcap hkm
  go_wp2_with fail
  refine (answers_any _).mono ?_
  rintro e w2 ⟨rfl, hb2⟩
  have hb3 : Below w.heap.size w w2 := ((hbw.alloc hz _).trans (hb2.mono (by simp; omega)))
  clear hb2
  go_wp2_with (first
    | (go_at_call 17; (with_reducible refine (scalar_is _ _ _ HB.out).mono ?_); rintro e w' ⟨rfl, rfl⟩)
    | (go_at_call 18; (with_reducible refine (rscalar_is _ _ _ HB.out).mono ?_); rintro e w' ⟨rfl, rfl⟩)
    | (go_at_call 19; (with_reducible refine (len_is _ _ _ HM.out).mono ?_); rintro e w' ⟨rfl, rfl⟩)
    | (go_at_call 20; (with_reducible refine (rlen_is _ _ _ HM.out).mono ?_); rintro e w' ⟨rfl, rfl⟩))
  go_ret
  exact ⟨rfl, hb3⟩
end Go.Proofs.Ytambempcicakgaa.U
