/- UtfOrder answers true at every two numbers; nothing that was there is changed. -/
import Derived.Test.YtambempcicakgaaWalkSizes
import Derived.Deep.RegionHeld3
import Derived.Deep.DrawnRows
namespace Go.Proofs.Ytambempcicakgaa.U
open Go.RowKit
attribute [local go_sem ↓] Go.wp_at_zero Go.wp_at_succ

def eB (r : Int) : Int := if scB r = true then 0 else 2
theorem eB_yes {r : Int} (h : scB r = true) : eB r = 0 := by simp [eB, h]
theorem eB_no {r : Int} (h : scB r = false) : eB r = 2 := by simp [eB, h]

theorem enc_single (r : Int) : Encoded [r] (enc1 r) (eB r) 0 := by
  by_cases h : scB r = true
  · exact .inl ⟨eB_yes h, rfl, fun x hx => by rw [List.mem_singleton.1 hx]; exact h, by simp [encAll]⟩
  · have h' : scB r = false := by simpa using h
    exact .inr ⟨eB_no h', enc_0 (ln_none h'), [], r, [], by simp [AllSc], h', rfl, rfl⟩

def One1 (w0 : World) (r E : Int) (m : Nat) (e : Ending) (w : World) : Prop :=
  ∃ A cap, e = .returned (.tuple #[.slice A m cap, .agg #[.int .i64 E, .int .i64 0]]) ∧ m ≤ cap ∧ Rd w w.heap.size .u8 A (enc1 r) ∧ Below w0.heap.size w0 w

theorem encode_one (w : World) (A : Option Addr) (c : Nat) (r E : Int) (m : Nat) (h : Rd w w.heap.size .i32 A [r]) (hE : eB r = E) (hm : ln r = m) : Calls Try.prog 14 #[.slice A 1 c] w (One1 w r E m) := by
  refine (encode_any A [r] c w h (by simp)).mono ?_
  rintro e w' ⟨v, out, E', n, rfl, hd, hown, hbel⟩
  obtain ⟨rfl, rfl, rfl⟩ := encoded_one hd (enc_single r)
  obtain ⟨A', cap, rfl, hcap, hr⟩ := own_rd (k := .u8) hown
  subst hE hm
  rw [enc_length] at *
  exact ⟨A', cap, rfl, hcap, hr, hbel⟩

/-- Two scalars' bytes, where they differ first. -/
theorem enc_lt {r s a b : Int} {k : Nat} (hr : scB r = true) (hs : scB s = true) (he : ∀ j, j < k → (enc1 r)[j]? = (enc1 s)[j]?) (ha : (enc1 r)[k]? = some a) (hb : (enc1 s)[k]? = some b) (hne : a ≠ b) :
    (decide (a < b) == decide (r < s)) = true := by
  have e0 := fun h : 0 < k => he 0 h
  have e1 := fun h : 1 < k => he 1 h
  have e2 := fun h : 2 < k => he 2 h
  have hk : k < 4 := by
    obtain ⟨h, _⟩ := List.getElem?_eq_some_iff.1 ha
    rw [enc_length] at h
    have := ln_le r
    omega
  have q1 : r / 4096 = r / 64 / 64 := by omega
  have q2 : r / 262144 = r / 64 / 64 / 64 := by omega
  have q3 : s / 4096 = s / 64 / 64 := by omega
  have q4 : s / 262144 = s / 64 / 64 / 64 := by omega
  have goal : a < b ↔ r < s := by
    rcases enc_cases hr with ⟨x, y, _, e⟩ | ⟨x, y, _, e⟩ | ⟨x, y, _, e⟩ | ⟨x, y, _, e⟩ <;>
    rcases enc_cases hs with ⟨x', y', _, e'⟩ | ⟨x', y', _, e'⟩ | ⟨x', y', _, e'⟩ | ⟨x', y', _, e'⟩ <;>
    rw [e] at ha e0 e1 e2 <;> rw [e'] at hb e0 e1 e2 <;>
    obtain rfl | rfl | rfl | rfl : k = 0 ∨ k = 1 ∨ k = 2 ∨ k = 3 := by omega
    all_goals simp at ha hb e0 e1 e2
    all_goals omega
  by_cases h : a < b
  · simp [h, goal.1 h]
  · have : ¬ r < s := fun h' => h (goal.2 h')
    simp [h, this]

theorem enc_eq {r s : Int} {k : Nat} (hr : scB r = true) (hs : scB s = true) (he : ∀ j, j < k → (enc1 r)[j]? = (enc1 s)[j]?) (hk : k = ln r ∨ k = ln s) (hk1 : k ≤ ln r) (hk2 : k ≤ ln s) : r = s := by
  have ht : (enc1 r).take k = (enc1 s).take k := by
    apply List.ext_getElem?
    intro j
    rw [List.getElem?_take, List.getElem?_take]
    by_cases hj : j < k
    · simp [hj, he j hj]
    · simp [hj]
  rcases hk with rfl | rfl
  · have h1 : enc1 r ++ (enc1 s).drop (ln r) = enc1 s ++ [] := by
      rw [← enc_length r, List.take_length] at ht
      rw [List.append_nil, ht, enc_length, List.take_append_drop]
    exact (enc_inj hr hs h1).1
  · have h1 : enc1 s ++ (enc1 r).drop (ln s) = enc1 r ++ [] := by
      rw [← enc_length s, List.take_length] at ht
      rw [List.append_nil, ← ht, enc_length, List.take_append_drop]
    exact (enc_inj hs hr h1).1.symm

/-- Slices keep what they read when a block is laid. -/
theorem Rd.alloc {w : World} {B : Nat} {k : IntKind} {A : Option Addr} {l : List Int} (h : Rd w B k A l) (hB : B ≤ w.heap.size) (o : Obj) : Rd (w.alloc o) B k A l := fun i x hx => by
  obtain ⟨g, off, e, hg, hc⟩ := h i x hx
  exact ⟨g, off, e, hg, (World.cell?_alloc_lt _ _ _ (by simp; omega)).trans hc⟩

def OrdRel (W : World) (r s : Int) (i : Value) (w : World) : Prop :=
  ∃ k m : Nat, i = .int .i64 k ∧ k ≤ ln r ∧ k ≤ ln s ∧ w = W.drewN m ∧ ∀ j, j < k → (enc1 r)[j]? = (enc1 s)[j]?

set_option maxHeartbeats 1000000 in
theorem walk_order (r s : Int) (w : World) : Calls Try.prog 9 #[.int .i32 r, .int .i32 s] w fun e w' => e = .returned (.bool true) ∧ Below w.heap.size w w' := by
  have hrd := rd_new w .i32 21 [r]
  have HRD := Lib.hid hrd
  clear hrd
  obtain ⟨E1, hE1⟩ : ∃ E, eB r = E := ⟨_, rfl⟩
  obtain ⟨E2, hE2⟩ : ∃ E, eB s = E := ⟨_, rfl⟩
  obtain ⟨la, hla⟩ : ∃ n, ln r = n := ⟨_, rfl⟩
  obtain ⟨lb, hlb⟩ : ∃ n, ln s = n := ⟨_, rfl⟩
  have HE1 := Lib.hid hE1
  have HE2 := Lib.hid hE2
  have HLA := Lib.hid hla
  have HLB := Lib.hid hlb
  clear hE1 hE2 hla hlb
  go_enter Try.func9, Try.ntmps9
  go_wp2_with fail
  refine (encode_one _ _ _ r E1 la HRD.out HE1.out HLA.out).mono ?_
  rintro e w1 ⟨A1, cap1, rfl, hcap1, hr1, hb1⟩
  have hw1 : Below w.heap.size w w1 := ((Below.refl _ _).alloc (Nat.le_refl _) _).trans (hb1.mono (by simp))
  have hz1 : w.heap.size ≤ w1.heap.size := hw1.size
  clear hb1 HRD
  go_wp2_with fail
  refine (encode_one _ _ _ s E2 lb (by have := rd_new (w1.alloc (.cells #[.int .i64 E1, .int .i64 0] 27)) .i32 21 [s]; simpa using this) HE2.out HLB.out).mono ?_
  rintro e w2 ⟨A2, cap2, rfl, hcap2, hr2, hb2⟩
  have hx2 : Below (w1.heap.size + 1) (w1.alloc (.cells #[.int .i64 E1, .int .i64 0] 27)) w2 := by
    refine (((Below.refl _ _).alloc (by simp) _).trans (hb2.mono (by simp)))
  have hw2 : Below w.heap.size w w2 := (hw1.alloc hz1 _).trans (hx2.mono (by omega))
  have hz2 : w1.heap.size + 1 ≤ w2.heap.size := by have := hx2.size; simpa using this
  have hr1' : Rd w2 w1.heap.size .u8 A1 (enc1 r) := (hr1.alloc (Nat.le_refl _) _).below (hx2.mono (by omega))
  have hcE : w2.cell? ⟨w1.heap.size, 0, none⟩ = some (.int .i64 E1) := by
    rw [hx2.cell (p := ⟨w1.heap.size, 0, none⟩) (by simp)]; simp
  have hz2' : w1.heap.size < w2.heap.size := by omega
  clear hb2 hx2 hr1 hw1
  by_cases hs1 : scB r = true
  · obtain rfl : (0 : Int) = E1 := by rw [← HE1.out, eB_yes hs1]
    by_cases hs2 : scB s = true
    · obtain rfl : (0 : Int) = E2 := by rw [← HE2.out, eB_yes hs2]
      have hR1 : Rd (w2.alloc (.cells #[.int .i64 0, .int .i64 0] 27)) w2.heap.size .u8 A1 (enc1 r) := (hr1'.more (by omega)).alloc (Nat.le_refl _) _
      have hR2 : Rd (w2.alloc (.cells #[.int .i64 0, .int .i64 0] 27)) w2.heap.size .u8 A2 (enc1 s) := hr2.alloc (Nat.le_refl _) _
      have hW : Below w.heap.size w (w2.alloc (.cells #[.int .i64 0, .int .i64 0] 27)) := hw2.alloc (by omega) _
      have HR1 := Lib.hid hR1
      have HR2 := Lib.hid hR2
      have hla4 : la ≤ 4 := by rw [← HLA.out]; exact ln_le r
      have hlb4 : lb ≤ 4 := by rw [← HLB.out]; exact ln_le s
      clear hR1 hR2 hr1' hr2 hw2
      go_wp2
      go_loopw [9] (fun i wr => OrdRel (w2.alloc (.cells #[.int .i64 0, .int .i64 0] 27)) r s i wr) (fun i _ => la - (intOf i).toNat)
      case atStart => exact ⟨0, 0, rfl, Nat.zero_le _, Nat.zero_le _, rfl, fun j hj => by omega⟩
      case round =>
        obtain ⟨k, m, rfl, hk1, hk2, rfl, heq⟩ := hrel
        have HEQ := Lib.hid heq
        rw [HLA.out] at hk1
        rw [HLB.out] at hk2
        clear heq
        by_cases hlt : k < la ∧ k < lb
        · obtain ⟨ha, hb⟩ := hlt
          obtain ⟨x, hx⟩ : ∃ x, (enc1 r)[k]? = some x := ⟨(enc1 r)[k]'(by rw [enc_length, HLA.out]; exact ha), by simp⟩
          obtain ⟨y, hy⟩ : ∃ y, (enc1 s)[k]? = some y := ⟨(enc1 s)[k]'(by rw [enc_length, HLB.out]; exact hb), by simp⟩
          obtain ⟨g1, o1, rfl, hg1, hc1⟩ := HR1.out k x hx
          obtain ⟨g2, o2, rfl, hg2, hc2⟩ := HR2.out k y hy
          have HX := Lib.hid hx
          have HY := Lib.hid hy
          clear hx hy
          have hi1 : (0 : Int) ≤ (k : Int) := by omega
          have hi2 : (k : Int) < (la : Int) := by omega
          have hi3 : (k : Int) < (lb : Int) := by omega
          by_cases hxy : x = y
          · subst hxy
            have hne : (x != x) = false := by simp
            go_wp2
            go_quiet (fail)
            go_wp2
            go_roundw
            case rel => exact ⟨k + 1, _, by go_num, by rw [HLA.out]; omega, by rw [HLB.out]; omega, rfl, fun j hj => by
              by_cases e : j = k
              · subst e; rw [HX.out, HY.out]
              · exact HEQ.out j (by omega)⟩
            case measure => simp [intOf]; omega
          · have hne : (x != y) = true := by simpa using hxy
            go_wp2
            go_quiet (fail)
            go_wp2
            have hB0 : Below w.heap.size w (((w2.alloc (.cells #[.int .i64 0, .int .i64 0] 27)).drewN m).drewN nq) := ⟨hW.os, hW.tape, hW.output, hW.size, hW.block⟩
            have hcx : (((w2.alloc (.cells #[.int .i64 0, .int .i64 0] 27)).drewN m).drewN nq).cell? ⟨g1, o1 + k, none⟩ = some (.int .u8 x) := hc1
            have hcy : (((w2.alloc (.cells #[.int .i64 0, .int .i64 0] 27)).drewN m).drewN nq).cell? ⟨g2, o2 + k, none⟩ = some (.int .u8 y) := hc2
            have hg1' : g1 < (((w2.alloc (.cells #[.int .i64 0, .int .i64 0] 27)).drewN m).drewN nq).heap.size := by simp; omega
            have hg2' : g2 < (((w2.alloc (.cells #[.int .i64 0, .int .i64 0] 27)).drewN m).drewN nq).heap.size := by simp; omega
            have hBs := hB0.size
            generalize (((w2.alloc (.cells #[.int .i64 0, .int .i64 0] 27)).drewN m).drewN nq) = W3 at hB0 hcx hcy hg1' hg2' hBs ⊢
            clear hc1 hc2 hW hcE
            have hend := enc_lt hs1 hs2 HEQ.out HX.out HY.out hxy
            go_region_held3 (fun w' => w'.cell? ⟨g1, o1 + k, none⟩ = some (.int .u8 x) ∧ w'.cell? ⟨g2, o2 + k, none⟩ = some (.int .u8 y) ∧ g1 < w'.heap.size ∧ g2 < w'.heap.size ∧ Below w.heap.size w w')
              (first
                | exact ⟨hcx, hcy, hg1', hg2', hB0⟩
                | exact ⟨hcx, hcy, hg1', hg2', hB0.drew⟩
                | exact ⟨(hb4.cell (p := ⟨g1, o1 + k, none⟩) hg1').trans hcx, (hb4.cell (p := ⟨g2, o2 + k, none⟩) hg2').trans hcy, Nat.lt_of_lt_of_le hg1' hb4.size, Nat.lt_of_lt_of_le hg2' hb4.size, hB0.drew.trans (hb4.mono hBs)⟩)
              (first | (go_at_call 10; refine (answers_any _).mono ?_; rintro e w4 ⟨rfl, hb4⟩))
            go_wp2
            go_ret
            exact ⟨rfl, hB0.drew.trans (hb4.mono hBs)⟩
        · have hrs : r = s := enc_eq (k := k) hs1 hs2 HEQ.out (by rw [HLA.out, HLB.out]; omega) (by rw [HLA.out]; exact hk1) (by rw [HLB.out]; exact hk2)
          subst hrs
          obtain rfl : la = lb := HLA.out.symm.trans HLB.out
          obtain rfl : k = la := by omega
          have hB0 : Below w.heap.size w ((w2.alloc (.cells #[.int .i64 0, .int .i64 0] 27)).drewN m) := ⟨hW.os, hW.tape, hW.output, hW.size, hW.block⟩
          have hBs := hB0.size
          generalize ((w2.alloc (.cells #[.int .i64 0, .int .i64 0] 27)).drewN m) = W3 at hB0 hBs ⊢
          clear hW hcE
          go_wp2_with (go_at_call 10; (with_reducible refine (answers_any _).mono ?_); rintro e w4 ⟨rfl, hb4⟩)
          go_ret
          exact ⟨rfl, hB0.trans (hb4.mono hBs)⟩
    · obtain rfl : (2 : Int) = E2 := by rw [← HE2.out, eB_no (by simpa using hs2)]
      go_wp2_with (go_at_call 10; (with_reducible refine (answers_any _).mono ?_); rintro e w4 ⟨rfl, hb4⟩)
      go_ret
      exact ⟨rfl, (hw2.alloc (by omega) _).trans (hb4.mono (by simp; omega))⟩
  · obtain rfl : (2 : Int) = E1 := by rw [← HE1.out, eB_no (by simpa using hs1)]
    go_wp2_with (go_at_call 10; (with_reducible refine (answers_any _).mono ?_); rintro e w4 ⟨rfl, hb4⟩)
    go_ret
    exact ⟨rfl, (hw2.alloc (by omega) _).trans (hb4.mono (by simp; omega))⟩

end Go.Proofs.Ytambempcicakgaa.U
