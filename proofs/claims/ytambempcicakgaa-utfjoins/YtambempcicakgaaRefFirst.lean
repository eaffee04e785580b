/- What the reference's first answers: the first scalar of bytes, or none. There is a byte. -/
import Derived.Test.YtambempcicakgaaWalkEncodes
namespace Go.Proofs.Ytambempcicakgaa.U
open Go.RowKit
attribute [local go_sem ↓] Go.wp_at_zero Go.wp_at_succ

def FstB (w : World) (l : List Int) (e : Ending) (w' : World) : Prop := ∃ (r : Int) (n : Nat), e = .returned (.tuple #[.int .i32 r, .int .i64 n]) ∧ FirstOf l r n ∧ Below w.heap.size w w'

/-- No scalar of fewer than s bytes is first. -/
def Past (l : List Int) (s : Int) : Prop := ∀ r t, scB r = true → l = enc1 r ++ t → s ≤ (ln r : Int)

/-- What the reference's loop keeps. -/
def RFRel (w : World) (l : List Int) (i : Value) (wr : World) : Prop :=
  ∃ s : Int, i = .int .i64 s ∧ (s = 1 ∨ s = 2 ∨ s = 3 ∨ s = 4 ∨ s = 5) ∧ Past l s ∧ Below w.heap.size w wr

theorem past_short {l : List Int} {n : Nat} {s : Int} (h : Past l s) (hn : l.length = n) (hs : (n : Int) < s) : NoFirst l := fun r t hr he => by
  have h1 := h r t hr he
  have h2 := (first_inv hr he).2.1
  omega
theorem past_all {l : List Int} (h : Past l 5) : NoFirst l := fun r t hr he => by
  have h1 := h r t hr he
  have h2 := (ln_pos hr).2
  omega
/-- The number that n bytes tell is no scalar of n bytes whose bytes they are. -/
theorem past_next {l : List Int} {n : Nat} {x : Int} (h : Past l n) (hx : x = facc l n (n - 1)) (hno : ∀ t, scB x = true → ln x = n → l ≠ enc1 x ++ t) : Past l ((n : Int) + 1) := fun r t hr he => by
  have h1 := h r t hr he
  by_cases e : ln r = n
  · exfalso
    have h3 := (first_inv hr he).2.2.2
    rw [e, ← hx] at h3
    subst h3
    exact hno t hr e he
  · omega
theorem take_enc {l : List Int} {x : Int} {n : Nat} (he : enc1 x = l.take n) : l = enc1 x ++ l.drop n := by rw [he, List.take_append_drop]
theorem enc_take {l t : List Int} {x : Int} {n : Nat} (hn : ln x = n) (he : l = enc1 x ++ t) : enc1 x = l.take n := by
  rw [he, List.take_append_of_le_length (by rw [enc_length]; omega), List.take_of_length_le (by rw [enc_length]; omega)]
theorem Rd.take {w : World} {B : Nat} {kd : IntKind} {A : Option Addr} {l : List Int} (h : Rd w B kd A l) (n : Nat) : Rd w B kd A (l.take n) := fun i x hx => by
  rw [List.getElem?_take] at hx
  split at hx
  · exact h i x hx
  · cases hx

theorem tell_1 {l : List Int} {b0 : Int} (h0 : l[0]? = some b0) : b0 = facc l 1 (1 - 1) := by
  have e : hd ((1 : Nat) : Int) = 0 := by decide
  simp only [facc, e, getD_of h0, Nat.add_one_sub_one]
  omega

theorem tell_2 {l : List Int} {b0 b1 : Int} (h0 : l[0]? = some b0) (h1 : l[1]? = some b1) : (b0 - 192) * 64 + b1 - 128 = facc l 2 (2 - 1) := by
  have e : hd ((2 : Nat) : Int) = 192 := by decide
  simp only [facc, e, getD_of h0, getD_of h1, Nat.add_one_sub_one, Nat.reduceAdd]
  omega

theorem tell_3 {l : List Int} {b0 b1 b2 : Int} (h0 : l[0]? = some b0) (h1 : l[1]? = some b1) (h2 : l[2]? = some b2) : (b0 - 224) * 4096 + (b1 - 128) * 64 + b2 - 128 = facc l 3 (3 - 1) := by
  have e : hd ((3 : Nat) : Int) = 224 := by decide
  simp only [facc, e, getD_of h0, getD_of h1, getD_of h2, Nat.add_one_sub_one, Nat.reduceAdd]
  omega

theorem tell_4 {l : List Int} {b0 b1 b2 b3 : Int} (h0 : l[0]? = some b0) (h1 : l[1]? = some b1) (h2 : l[2]? = some b2) (h3 : l[3]? = some b3) : (b0 - 240) * 262144 + (b1 - 128) * 4096 + (b2 - 128) * 64 + b3 - 128 = facc l 4 (4 - 1) := by
  have e : hd ((4 : Nat) : Int) = 240 := by decide
  simp only [facc, e, getD_of h0, getD_of h1, getD_of h2, getD_of h3, Nat.add_one_sub_one, Nat.reduceAdd]
  omega

set_option maxHeartbeats 4000000 in
set_option maxRecDepth 100000 in
theorem rfirst_any (A : Option Addr) (n c : Nat) (l : List Int) (w : World) (h : Rd w w.heap.size .u8 A l) (hn : l.length = n) (hb : Bytes l) (hc : n ≤ c) :
    Calls Try.prog 22 #[.slice A n c] w (FstB w l) := by
  have HN := Lib.hid hn
  have HB := Lib.hid hb
  have HR := Lib.hid h
  clear hn hb h
  go_enter Try.func22, Try.ntmps22
  go_wp2
  go_loopw [4] (fun i wr => RFRel w l i wr) (fun i _ => (5 - intOf i).toNat)
  case atStart => exact ⟨1, rfl, .inl rfl, fun r t hs _ => by have := (ln_pos hs).1; omega, Below.refl _ _⟩
  case round =>
    obtain ⟨s, rfl, hs, hinv, hbel⟩ := hrel
    have HI := Lib.hid hinv
    clear hinv
    rcases hs with rfl | rfl | rfl | rfl | rfl
    · by_cases hlt : 1 ≤ n
      · have hi2 : (1 : Int) ≤ (n : Int) := by omega
        have hi1 : (0 : Int) < (n : Int) := by omega
        have hi3 : (1 : Int) ≤ (c : Int) := by omega
        obtain ⟨b0, h0⟩ : ∃ x, l[0]? = some x := ⟨l[0]'(by rw [HN.out]; omega), by simp⟩
        have r0 := HB.out b0 (List.mem_of_getElem? h0)
        obtain ⟨g, off, rfl, hg, hc0⟩ := HR.out 0 b0 h0
        have hd0 : wr.cell? ⟨g, off, none⟩ = some (.int .u8 b0) := (hbel.cell (p := ⟨g, off, none⟩) hg).trans hc0
        have HT := Lib.hid (tell_1 h0)
        clear h0 hc0
        go_wp2
        have hw2 : Below w.heap.size w (wr) := ⟨hbel.os, hbel.tape, hbel.output, hbel.size, hbel.block⟩
        generalize hW : wr = w2 at hw2 ⊢
        generalize hx : b0 = x at HT ⊢
        have hxb : -100000000 ≤ x ∧ x ≤ 100000000 := by omega
        clear hbel hW hx hd0 r0
        by_cases hin : 0 ≤ x ∧ x < 1114112
        · obtain ⟨hx0, hx1⟩ := hin
          have hp0 : decide (0 ≤ x) = true := by simpa using hx0
          have hp1 : decide (x < 1114112) = true := by simpa using hx1
          have hwx : wrap32 x = x := by simp [wrap32]; omega
          have hwy : IntKind.i32.wrap x = x := wrap_i32 hx0 (by omega)
          by_cases hln : ln x = 1
          · have HLN := Lib.hid hln
            have HLM := Lib.hid (show (ln x : Int) = 1 by omega)
            clear hln
            have hz2 := hw2.size
            have hgx : g < w2.heap.size := by omega
            have hz3 : w.heap.size ≤ w2.drew.heap.size := hz2
            have hRt : Rd w2.drew w.heap.size .u8 (some ⟨g, off, none⟩) (l.take 1) := (HR.out.below hw2).take 1
            have HRT := Lib.hid hRt
            have HZ3 := Lib.hid hz3
            have HTL := Lib.hid (show (l.take 1).length = 1 by rw [List.length_take, HN.out]; omega)
            obtain ⟨bb, hbb⟩ : ∃ bb, decide (enc1 x = l.take 1) = bb := ⟨_, rfl⟩
            have HBB := Lib.hid hbb
            clear hRt hbb hz3
            go_region_held3 (fun w' => Below w2.heap.size w2 w')
              (first | exact Below.refl _ _ | exact (Below.refl _ _).drew | exact ⟨hb4.os, hb4.tape, hb4.output, hb4.size, hb4.block⟩ | (subst hq5; exact ⟨hb4.os, hb4.tape, hb4.output, hb4.size, hb4.block⟩))
              ((go_simp; first
                | (go_at_call 20; (with_reducible refine (rlen_is _ 1 _ HLM.out).mono ?_); rintro e w' ⟨rfl, rfl⟩)
                | (go_at_call 24; (with_reducible refine (one_any x 1 _ HLN.out (by omega)).mono ?_); rintro e w4 ⟨A4, cap4, rfl, hcap4, hr4, hb4⟩)
                | (go_at_call 16; (with_reducible refine (same_is _ _ _ _ _ _ (enc1 x) (l.take 1) _ _ bb _ hr4 (HRT.out.below (hb4.mono HZ3.out)) (by rw [enc_length, HLN.out]) HTL.out (by omega) HBB.out).mono ?_); rintro e w5 ⟨rfl, q5, hq5⟩)))
            have hfin : Below w.heap.size w (w4.drewN q5) := hw2.trans ((show Below w2.heap.size w2 (w4.drewN q5) from ⟨hb4.os, hb4.tape, hb4.output, hb4.size, hb4.block⟩).mono hz2)
            clear hb4 hr4 hq5 hw2 hcap4
            cases bb
            · go_wp2
              go_roundw
              case rel => exact ⟨2, rfl, .inr (.inl rfl), past_next (n := 1) HI.out HT.out fun t _ hl he => absurd (enc_take hl he) (of_decide_eq_false HBB.out), hfin⟩
              case measure => simp [intOf]
            · go_wp2
              go_ret2
              exact ⟨x, 1, rfl, .inl ⟨sc_of_ln (by rw [HLN.out]; omega), HLN.out.symm, _, take_enc (of_decide_eq_true HBB.out)⟩, hfin⟩
          · obtain ⟨m, hm⟩ : ∃ m : Int, (ln x : Int) = m := ⟨_, rfl⟩
            have hmk : (m == 1) = false := by simp; omega
            have HM := Lib.hid hm
            have HLN := Lib.hid hln
            clear hm hln
            go_quiet ((go_at_call 20; exact quietly (rlen_is _ m _ HM.out)))
            go_wp2
            go_roundw
            case rel => exact ⟨2, rfl, .inr (.inl rfl), past_next (n := 1) HI.out HT.out fun t _ hl _ => absurd hl HLN.out, ⟨hw2.os, hw2.tape, hw2.output, hw2.size, hw2.block⟩⟩
            case measure => simp [intOf]
        · have HIN := Lib.hid hin
          by_cases hneg : 0 ≤ x
          · have hp0 : decide (0 ≤ x) = true := by simpa using hneg
            have hp1 : decide (x < 1114112) = false := by simp; omega
            clear hin
            go_quiet (fail)
            go_wp2
            go_roundw
            case rel => exact ⟨2, rfl, .inr (.inl rfl), past_next (n := 1) HI.out HT.out fun t hs _ _ => absurd (scB_true.1 hs) fun h => HIN.out ⟨h.1, h.2.1⟩, ⟨hw2.os, hw2.tape, hw2.output, hw2.size, hw2.block⟩⟩
            case measure => simp [intOf]
          · have hp0 : decide (0 ≤ x) = false := by simp; omega
            clear hin
            go_quiet (fail)
            go_wp2
            go_roundw
            case rel => exact ⟨2, rfl, .inr (.inl rfl), past_next (n := 1) HI.out HT.out fun t hs _ _ => absurd (scB_true.1 hs) fun h => HIN.out ⟨h.1, h.2.1⟩, ⟨hw2.os, hw2.tape, hw2.output, hw2.size, hw2.block⟩⟩
            case measure => simp [intOf]
      · have hq : decide ((1 : Int) ≤ (n : Int)) = false := by simp; omega
        go_wp2
        go_ret2
        exact ⟨0, 0, rfl, .inr ⟨rfl, rfl, past_short HI.out HN.out (by omega)⟩, hbel⟩
    · by_cases hlt : 2 ≤ n
      · have hi2 : (2 : Int) ≤ (n : Int) := by omega
        have hi1 : (1 : Int) < (n : Int) := by omega
        have hi3 : (2 : Int) ≤ (c : Int) := by omega
        obtain ⟨b0, h0⟩ : ∃ x, l[0]? = some x := ⟨l[0]'(by rw [HN.out]; omega), by simp⟩
        have r0 := HB.out b0 (List.mem_of_getElem? h0)
        obtain ⟨b1, h1⟩ : ∃ x, l[1]? = some x := ⟨l[1]'(by rw [HN.out]; omega), by simp⟩
        have r1 := HB.out b1 (List.mem_of_getElem? h1)
        obtain ⟨g, off, rfl, hg, hc0⟩ := HR.out 0 b0 h0
        have hd0 : wr.cell? ⟨g, off, none⟩ = some (.int .u8 b0) := (hbel.cell (p := ⟨g, off, none⟩) hg).trans hc0
        have hd1 : wr.cell? ⟨g, off + 1, none⟩ = some (.int .u8 b1) := by
          obtain ⟨_, _, e, _, hh⟩ := HR.out 1 b1 h1
          cases e
          exact (hbel.cell (p := ⟨g, off + 1, none⟩) hg).trans hh
        have HT := Lib.hid (tell_2 h0 h1)
        clear h0 h1 hc0
        go_wp2
        go_quiet (fail)
        go_wp2
        have hw2 : Below w.heap.size w (wr.drewN nq) := ⟨hbel.os, hbel.tape, hbel.output, hbel.size, hbel.block⟩
        generalize hW : wr.drewN nq = w2 at hw2 ⊢
        generalize hx : (b0 - 192) * 64 + b1 - 128 = x at HT ⊢
        have hxb : -100000000 ≤ x ∧ x ≤ 100000000 := by omega
        clear hbel hW hx hd0 r0 hd1 r1
        by_cases hin : 0 ≤ x ∧ x < 1114112
        · obtain ⟨hx0, hx1⟩ := hin
          have hp0 : decide (0 ≤ x) = true := by simpa using hx0
          have hp1 : decide (x < 1114112) = true := by simpa using hx1
          have hwx : wrap32 x = x := by simp [wrap32]; omega
          have hwy : IntKind.i32.wrap x = x := wrap_i32 hx0 (by omega)
          by_cases hln : ln x = 2
          · have HLN := Lib.hid hln
            have HLM := Lib.hid (show (ln x : Int) = 2 by omega)
            clear hln
            have hz2 := hw2.size
            have hgx : g < w2.heap.size := by omega
            have hz3 : w.heap.size ≤ w2.drew.heap.size := hz2
            have hRt : Rd w2.drew w.heap.size .u8 (some ⟨g, off, none⟩) (l.take 2) := (HR.out.below hw2).take 2
            have HRT := Lib.hid hRt
            have HZ3 := Lib.hid hz3
            have HTL := Lib.hid (show (l.take 2).length = 2 by rw [List.length_take, HN.out]; omega)
            obtain ⟨bb, hbb⟩ : ∃ bb, decide (enc1 x = l.take 2) = bb := ⟨_, rfl⟩
            have HBB := Lib.hid hbb
            clear hRt hbb hz3
            go_region_held3 (fun w' => Below w2.heap.size w2 w')
              (first | exact Below.refl _ _ | exact (Below.refl _ _).drew | exact ⟨hb4.os, hb4.tape, hb4.output, hb4.size, hb4.block⟩ | (subst hq5; exact ⟨hb4.os, hb4.tape, hb4.output, hb4.size, hb4.block⟩))
              ((go_simp; first
                | (go_at_call 20; (with_reducible refine (rlen_is _ 2 _ HLM.out).mono ?_); rintro e w' ⟨rfl, rfl⟩)
                | (go_at_call 24; (with_reducible refine (one_any x 2 _ HLN.out (by omega)).mono ?_); rintro e w4 ⟨A4, cap4, rfl, hcap4, hr4, hb4⟩)
                | (go_at_call 16; (with_reducible refine (same_is _ _ _ _ _ _ (enc1 x) (l.take 2) _ _ bb _ hr4 (HRT.out.below (hb4.mono HZ3.out)) (by rw [enc_length, HLN.out]) HTL.out (by omega) HBB.out).mono ?_); rintro e w5 ⟨rfl, q5, hq5⟩)))
            have hfin : Below w.heap.size w (w4.drewN q5) := hw2.trans ((show Below w2.heap.size w2 (w4.drewN q5) from ⟨hb4.os, hb4.tape, hb4.output, hb4.size, hb4.block⟩).mono hz2)
            clear hb4 hr4 hq5 hw2 hcap4
            cases bb
            · go_wp2
              go_roundw
              case rel => exact ⟨3, rfl, .inr (.inr (.inl rfl)), past_next (n := 2) HI.out HT.out fun t _ hl he => absurd (enc_take hl he) (of_decide_eq_false HBB.out), hfin⟩
              case measure => simp [intOf]
            · go_wp2
              go_ret2
              exact ⟨x, 2, rfl, .inl ⟨sc_of_ln (by rw [HLN.out]; omega), HLN.out.symm, _, take_enc (of_decide_eq_true HBB.out)⟩, hfin⟩
          · obtain ⟨m, hm⟩ : ∃ m : Int, (ln x : Int) = m := ⟨_, rfl⟩
            have hmk : (m == 2) = false := by simp; omega
            have HM := Lib.hid hm
            have HLN := Lib.hid hln
            clear hm hln
            go_quiet ((go_at_call 20; exact quietly (rlen_is _ m _ HM.out)))
            go_wp2
            go_roundw
            case rel => exact ⟨3, rfl, .inr (.inr (.inl rfl)), past_next (n := 2) HI.out HT.out fun t _ hl _ => absurd hl HLN.out, ⟨hw2.os, hw2.tape, hw2.output, hw2.size, hw2.block⟩⟩
            case measure => simp [intOf]
        · have HIN := Lib.hid hin
          by_cases hneg : 0 ≤ x
          · have hp0 : decide (0 ≤ x) = true := by simpa using hneg
            have hp1 : decide (x < 1114112) = false := by simp; omega
            clear hin
            go_quiet (fail)
            go_wp2
            go_roundw
            case rel => exact ⟨3, rfl, .inr (.inr (.inl rfl)), past_next (n := 2) HI.out HT.out fun t hs _ _ => absurd (scB_true.1 hs) fun h => HIN.out ⟨h.1, h.2.1⟩, ⟨hw2.os, hw2.tape, hw2.output, hw2.size, hw2.block⟩⟩
            case measure => simp [intOf]
          · have hp0 : decide (0 ≤ x) = false := by simp; omega
            clear hin
            go_quiet (fail)
            go_wp2
            go_roundw
            case rel => exact ⟨3, rfl, .inr (.inr (.inl rfl)), past_next (n := 2) HI.out HT.out fun t hs _ _ => absurd (scB_true.1 hs) fun h => HIN.out ⟨h.1, h.2.1⟩, ⟨hw2.os, hw2.tape, hw2.output, hw2.size, hw2.block⟩⟩
            case measure => simp [intOf]
      · have hq : decide ((2 : Int) ≤ (n : Int)) = false := by simp; omega
        go_wp2
        go_ret2
        exact ⟨0, 0, rfl, .inr ⟨rfl, rfl, past_short HI.out HN.out (by omega)⟩, hbel⟩
    · by_cases hlt : 3 ≤ n
      · have hi2 : (3 : Int) ≤ (n : Int) := by omega
        have hi1 : (2 : Int) < (n : Int) := by omega
        have hi3 : (3 : Int) ≤ (c : Int) := by omega
        obtain ⟨b0, h0⟩ : ∃ x, l[0]? = some x := ⟨l[0]'(by rw [HN.out]; omega), by simp⟩
        have r0 := HB.out b0 (List.mem_of_getElem? h0)
        obtain ⟨b1, h1⟩ : ∃ x, l[1]? = some x := ⟨l[1]'(by rw [HN.out]; omega), by simp⟩
        have r1 := HB.out b1 (List.mem_of_getElem? h1)
        obtain ⟨b2, h2⟩ : ∃ x, l[2]? = some x := ⟨l[2]'(by rw [HN.out]; omega), by simp⟩
        have r2 := HB.out b2 (List.mem_of_getElem? h2)
        obtain ⟨g, off, rfl, hg, hc0⟩ := HR.out 0 b0 h0
        have hd0 : wr.cell? ⟨g, off, none⟩ = some (.int .u8 b0) := (hbel.cell (p := ⟨g, off, none⟩) hg).trans hc0
        have hd1 : wr.cell? ⟨g, off + 1, none⟩ = some (.int .u8 b1) := by
          obtain ⟨_, _, e, _, hh⟩ := HR.out 1 b1 h1
          cases e
          exact (hbel.cell (p := ⟨g, off + 1, none⟩) hg).trans hh
        have hd2 : wr.cell? ⟨g, off + 2, none⟩ = some (.int .u8 b2) := by
          obtain ⟨_, _, e, _, hh⟩ := HR.out 2 b2 h2
          cases e
          exact (hbel.cell (p := ⟨g, off + 2, none⟩) hg).trans hh
        have HT := Lib.hid (tell_3 h0 h1 h2)
        clear h0 h1 h2 hc0
        go_wp2
        go_quiet (fail)
        go_wp2
        have hw2 : Below w.heap.size w (wr.drewN nq) := ⟨hbel.os, hbel.tape, hbel.output, hbel.size, hbel.block⟩
        generalize hW : wr.drewN nq = w2 at hw2 ⊢
        generalize hx : (b0 - 224) * 4096 + (b1 - 128) * 64 + b2 - 128 = x at HT ⊢
        have hxb : -100000000 ≤ x ∧ x ≤ 100000000 := by omega
        clear hbel hW hx hd0 r0 hd1 r1 hd2 r2
        by_cases hin : 0 ≤ x ∧ x < 1114112
        · obtain ⟨hx0, hx1⟩ := hin
          have hp0 : decide (0 ≤ x) = true := by simpa using hx0
          have hp1 : decide (x < 1114112) = true := by simpa using hx1
          have hwx : wrap32 x = x := by simp [wrap32]; omega
          have hwy : IntKind.i32.wrap x = x := wrap_i32 hx0 (by omega)
          by_cases hln : ln x = 3
          · have HLN := Lib.hid hln
            have HLM := Lib.hid (show (ln x : Int) = 3 by omega)
            clear hln
            have hz2 := hw2.size
            have hgx : g < w2.heap.size := by omega
            have hz3 : w.heap.size ≤ w2.drew.heap.size := hz2
            have hRt : Rd w2.drew w.heap.size .u8 (some ⟨g, off, none⟩) (l.take 3) := (HR.out.below hw2).take 3
            have HRT := Lib.hid hRt
            have HZ3 := Lib.hid hz3
            have HTL := Lib.hid (show (l.take 3).length = 3 by rw [List.length_take, HN.out]; omega)
            obtain ⟨bb, hbb⟩ : ∃ bb, decide (enc1 x = l.take 3) = bb := ⟨_, rfl⟩
            have HBB := Lib.hid hbb
            clear hRt hbb hz3
            go_region_held3 (fun w' => Below w2.heap.size w2 w')
              (first | exact Below.refl _ _ | exact (Below.refl _ _).drew | exact ⟨hb4.os, hb4.tape, hb4.output, hb4.size, hb4.block⟩ | (subst hq5; exact ⟨hb4.os, hb4.tape, hb4.output, hb4.size, hb4.block⟩))
              ((go_simp; first
                | (go_at_call 20; (with_reducible refine (rlen_is _ 3 _ HLM.out).mono ?_); rintro e w' ⟨rfl, rfl⟩)
                | (go_at_call 24; (with_reducible refine (one_any x 3 _ HLN.out (by omega)).mono ?_); rintro e w4 ⟨A4, cap4, rfl, hcap4, hr4, hb4⟩)
                | (go_at_call 16; (with_reducible refine (same_is _ _ _ _ _ _ (enc1 x) (l.take 3) _ _ bb _ hr4 (HRT.out.below (hb4.mono HZ3.out)) (by rw [enc_length, HLN.out]) HTL.out (by omega) HBB.out).mono ?_); rintro e w5 ⟨rfl, q5, hq5⟩)))
            have hfin : Below w.heap.size w (w4.drewN q5) := hw2.trans ((show Below w2.heap.size w2 (w4.drewN q5) from ⟨hb4.os, hb4.tape, hb4.output, hb4.size, hb4.block⟩).mono hz2)
            clear hb4 hr4 hq5 hw2 hcap4
            cases bb
            · go_wp2
              go_roundw
              case rel => exact ⟨4, rfl, .inr (.inr (.inr (.inl rfl))), past_next (n := 3) HI.out HT.out fun t _ hl he => absurd (enc_take hl he) (of_decide_eq_false HBB.out), hfin⟩
              case measure => simp [intOf]
            · go_wp2
              go_ret2
              exact ⟨x, 3, rfl, .inl ⟨sc_of_ln (by rw [HLN.out]; omega), HLN.out.symm, _, take_enc (of_decide_eq_true HBB.out)⟩, hfin⟩
          · obtain ⟨m, hm⟩ : ∃ m : Int, (ln x : Int) = m := ⟨_, rfl⟩
            have hmk : (m == 3) = false := by simp; omega
            have HM := Lib.hid hm
            have HLN := Lib.hid hln
            clear hm hln
            go_quiet ((go_at_call 20; exact quietly (rlen_is _ m _ HM.out)))
            go_wp2
            go_roundw
            case rel => exact ⟨4, rfl, .inr (.inr (.inr (.inl rfl))), past_next (n := 3) HI.out HT.out fun t _ hl _ => absurd hl HLN.out, ⟨hw2.os, hw2.tape, hw2.output, hw2.size, hw2.block⟩⟩
            case measure => simp [intOf]
        · have HIN := Lib.hid hin
          by_cases hneg : 0 ≤ x
          · have hp0 : decide (0 ≤ x) = true := by simpa using hneg
            have hp1 : decide (x < 1114112) = false := by simp; omega
            clear hin
            go_quiet (fail)
            go_wp2
            go_roundw
            case rel => exact ⟨4, rfl, .inr (.inr (.inr (.inl rfl))), past_next (n := 3) HI.out HT.out fun t hs _ _ => absurd (scB_true.1 hs) fun h => HIN.out ⟨h.1, h.2.1⟩, ⟨hw2.os, hw2.tape, hw2.output, hw2.size, hw2.block⟩⟩
            case measure => simp [intOf]
          · have hp0 : decide (0 ≤ x) = false := by simp; omega
            clear hin
            go_quiet (fail)
            go_wp2
            go_roundw
            case rel => exact ⟨4, rfl, .inr (.inr (.inr (.inl rfl))), past_next (n := 3) HI.out HT.out fun t hs _ _ => absurd (scB_true.1 hs) fun h => HIN.out ⟨h.1, h.2.1⟩, ⟨hw2.os, hw2.tape, hw2.output, hw2.size, hw2.block⟩⟩
            case measure => simp [intOf]
      · have hq : decide ((3 : Int) ≤ (n : Int)) = false := by simp; omega
        go_wp2
        go_ret2
        exact ⟨0, 0, rfl, .inr ⟨rfl, rfl, past_short HI.out HN.out (by omega)⟩, hbel⟩
    · by_cases hlt : 4 ≤ n
      · have hi2 : (4 : Int) ≤ (n : Int) := by omega
        have hi1 : (3 : Int) < (n : Int) := by omega
        have hi3 : (4 : Int) ≤ (c : Int) := by omega
        obtain ⟨b0, h0⟩ : ∃ x, l[0]? = some x := ⟨l[0]'(by rw [HN.out]; omega), by simp⟩
        have r0 := HB.out b0 (List.mem_of_getElem? h0)
        obtain ⟨b1, h1⟩ : ∃ x, l[1]? = some x := ⟨l[1]'(by rw [HN.out]; omega), by simp⟩
        have r1 := HB.out b1 (List.mem_of_getElem? h1)
        obtain ⟨b2, h2⟩ : ∃ x, l[2]? = some x := ⟨l[2]'(by rw [HN.out]; omega), by simp⟩
        have r2 := HB.out b2 (List.mem_of_getElem? h2)
        obtain ⟨b3, h3⟩ : ∃ x, l[3]? = some x := ⟨l[3]'(by rw [HN.out]; omega), by simp⟩
        have r3 := HB.out b3 (List.mem_of_getElem? h3)
        obtain ⟨g, off, rfl, hg, hc0⟩ := HR.out 0 b0 h0
        have hd0 : wr.cell? ⟨g, off, none⟩ = some (.int .u8 b0) := (hbel.cell (p := ⟨g, off, none⟩) hg).trans hc0
        have hd1 : wr.cell? ⟨g, off + 1, none⟩ = some (.int .u8 b1) := by
          obtain ⟨_, _, e, _, hh⟩ := HR.out 1 b1 h1
          cases e
          exact (hbel.cell (p := ⟨g, off + 1, none⟩) hg).trans hh
        have hd2 : wr.cell? ⟨g, off + 2, none⟩ = some (.int .u8 b2) := by
          obtain ⟨_, _, e, _, hh⟩ := HR.out 2 b2 h2
          cases e
          exact (hbel.cell (p := ⟨g, off + 2, none⟩) hg).trans hh
        have hd3 : wr.cell? ⟨g, off + 3, none⟩ = some (.int .u8 b3) := by
          obtain ⟨_, _, e, _, hh⟩ := HR.out 3 b3 h3
          cases e
          exact (hbel.cell (p := ⟨g, off + 3, none⟩) hg).trans hh
        have HT := Lib.hid (tell_4 h0 h1 h2 h3)
        clear h0 h1 h2 h3 hc0
        go_wp2
        go_quiet (fail)
        go_wp2
        have hw2 : Below w.heap.size w (wr.drewN nq) := ⟨hbel.os, hbel.tape, hbel.output, hbel.size, hbel.block⟩
        generalize hW : wr.drewN nq = w2 at hw2 ⊢
        generalize hx : (b0 - 240) * 262144 + (b1 - 128) * 4096 + (b2 - 128) * 64 + b3 - 128 = x at HT ⊢
        have hxb : -100000000 ≤ x ∧ x ≤ 100000000 := by omega
        clear hbel hW hx hd0 r0 hd1 r1 hd2 r2 hd3 r3
        by_cases hin : 0 ≤ x ∧ x < 1114112
        · obtain ⟨hx0, hx1⟩ := hin
          have hp0 : decide (0 ≤ x) = true := by simpa using hx0
          have hp1 : decide (x < 1114112) = true := by simpa using hx1
          have hwx : wrap32 x = x := by simp [wrap32]; omega
          have hwy : IntKind.i32.wrap x = x := wrap_i32 hx0 (by omega)
          by_cases hln : ln x = 4
          · have HLN := Lib.hid hln
            have HLM := Lib.hid (show (ln x : Int) = 4 by omega)
            clear hln
            have hz2 := hw2.size
            have hgx : g < w2.heap.size := by omega
            have hz3 : w.heap.size ≤ w2.drew.heap.size := hz2
            have hRt : Rd w2.drew w.heap.size .u8 (some ⟨g, off, none⟩) (l.take 4) := (HR.out.below hw2).take 4
            have HRT := Lib.hid hRt
            have HZ3 := Lib.hid hz3
            have HTL := Lib.hid (show (l.take 4).length = 4 by rw [List.length_take, HN.out]; omega)
            obtain ⟨bb, hbb⟩ : ∃ bb, decide (enc1 x = l.take 4) = bb := ⟨_, rfl⟩
            have HBB := Lib.hid hbb
            clear hRt hbb hz3
            go_region_held3 (fun w' => Below w2.heap.size w2 w')
              (first | exact Below.refl _ _ | exact (Below.refl _ _).drew | exact ⟨hb4.os, hb4.tape, hb4.output, hb4.size, hb4.block⟩ | (subst hq5; exact ⟨hb4.os, hb4.tape, hb4.output, hb4.size, hb4.block⟩))
              ((go_simp; first
                | (go_at_call 20; (with_reducible refine (rlen_is _ 4 _ HLM.out).mono ?_); rintro e w' ⟨rfl, rfl⟩)
                | (go_at_call 24; (with_reducible refine (one_any x 4 _ HLN.out (by omega)).mono ?_); rintro e w4 ⟨A4, cap4, rfl, hcap4, hr4, hb4⟩)
                | (go_at_call 16; (with_reducible refine (same_is _ _ _ _ _ _ (enc1 x) (l.take 4) _ _ bb _ hr4 (HRT.out.below (hb4.mono HZ3.out)) (by rw [enc_length, HLN.out]) HTL.out (by omega) HBB.out).mono ?_); rintro e w5 ⟨rfl, q5, hq5⟩)))
            have hfin : Below w.heap.size w (w4.drewN q5) := hw2.trans ((show Below w2.heap.size w2 (w4.drewN q5) from ⟨hb4.os, hb4.tape, hb4.output, hb4.size, hb4.block⟩).mono hz2)
            clear hb4 hr4 hq5 hw2 hcap4
            cases bb
            · go_wp2
              go_roundw
              case rel => exact ⟨5, rfl, .inr (.inr (.inr (.inr rfl))), past_next (n := 4) HI.out HT.out fun t _ hl he => absurd (enc_take hl he) (of_decide_eq_false HBB.out), hfin⟩
              case measure => simp [intOf]
            · go_wp2
              go_ret2
              exact ⟨x, 4, rfl, .inl ⟨sc_of_ln (by rw [HLN.out]; omega), HLN.out.symm, _, take_enc (of_decide_eq_true HBB.out)⟩, hfin⟩
          · obtain ⟨m, hm⟩ : ∃ m : Int, (ln x : Int) = m := ⟨_, rfl⟩
            have hmk : (m == 4) = false := by simp; omega
            have HM := Lib.hid hm
            have HLN := Lib.hid hln
            clear hm hln
            go_quiet ((go_at_call 20; exact quietly (rlen_is _ m _ HM.out)))
            go_wp2
            go_roundw
            case rel => exact ⟨5, rfl, .inr (.inr (.inr (.inr rfl))), past_next (n := 4) HI.out HT.out fun t _ hl _ => absurd hl HLN.out, ⟨hw2.os, hw2.tape, hw2.output, hw2.size, hw2.block⟩⟩
            case measure => simp [intOf]
        · have HIN := Lib.hid hin
          by_cases hneg : 0 ≤ x
          · have hp0 : decide (0 ≤ x) = true := by simpa using hneg
            have hp1 : decide (x < 1114112) = false := by simp; omega
            clear hin
            go_quiet (fail)
            go_wp2
            go_roundw
            case rel => exact ⟨5, rfl, .inr (.inr (.inr (.inr rfl))), past_next (n := 4) HI.out HT.out fun t hs _ _ => absurd (scB_true.1 hs) fun h => HIN.out ⟨h.1, h.2.1⟩, ⟨hw2.os, hw2.tape, hw2.output, hw2.size, hw2.block⟩⟩
            case measure => simp [intOf]
          · have hp0 : decide (0 ≤ x) = false := by simp; omega
            clear hin
            go_quiet (fail)
            go_wp2
            go_roundw
            case rel => exact ⟨5, rfl, .inr (.inr (.inr (.inr rfl))), past_next (n := 4) HI.out HT.out fun t hs _ _ => absurd (scB_true.1 hs) fun h => HIN.out ⟨h.1, h.2.1⟩, ⟨hw2.os, hw2.tape, hw2.output, hw2.size, hw2.block⟩⟩
            case measure => simp [intOf]
      · have hq : decide ((4 : Int) ≤ (n : Int)) = false := by simp; omega
        go_wp2
        go_ret2
        exact ⟨0, 0, rfl, .inr ⟨rfl, rfl, past_short HI.out HN.out (by omega)⟩, hbel⟩
    · go_wp2
      go_ret2
      exact ⟨0, 0, rfl, .inr ⟨rfl, rfl, past_all HI.out⟩, hbel⟩

end Go.Proofs.Ytambempcicakgaa.U
