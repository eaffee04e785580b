/- What the reference's Ref answers: a scalar's reference, nothing of what is none. -/
import Derived.Test.YtfggeofknmdmfaaDoorExpand
namespace Go.Proofs.YtfggeofknmdmfaaDoor.U
open Go.RowKit
set_option linter.unusedVariables false

/-- The last digits of r, and what is left ahead of them. -/
def Tail (r y : Int) (ds : List Int) : Prop :=
  (ds = [] ∧ y = r) ∨ (ds = [hx (r % 16)] ∧ y = r / 16) ∨ (ds = [hx (r / 16 % 16), hx (r % 16)] ∧ y = r / 256) ∨ (ds = [hx (r / 256 % 16), hx (r / 16 % 16), hx (r % 16)] ∧ y = r / 4096) ∨
  (ds = [hx (r / 4096 % 16), hx (r / 256 % 16), hx (r / 16 % 16), hx (r % 16)] ∧ y = r / 65536) ∨
  (ds = [hx (r / 65536 % 16), hx (r / 4096 % 16), hx (r / 256 % 16), hx (r / 16 % 16), hx (r % 16)] ∧ y = r / 1048576 ∧ 65536 ≤ r) ∨
  (ds = [hx (r / 1048576 % 16), hx (r / 65536 % 16), hx (r / 4096 % 16), hx (r / 256 % 16), hx (r / 16 % 16), hx (r % 16)] ∧ y = 0 ∧ 1048576 ≤ r)

theorem tail_next {r y : Int} {ds : List Int} (hr0 : 0 ≤ r) (hr1 : r < 1114112) (h : Tail r y ds) (hgo : ds.length < 4 ∨ 0 < y) : Tail r (y / 16) (hx (y % 16) :: ds) ∧ (hx (y % 16) :: ds).length ≤ 6 := by
  rcases h with ⟨rfl, rfl⟩ | ⟨rfl, rfl⟩ | ⟨rfl, rfl⟩ | ⟨rfl, rfl⟩ | ⟨rfl, rfl⟩ | ⟨rfl, rfl, _⟩ | ⟨rfl, rfl, _⟩
  · exact ⟨.inr (.inl ⟨rfl, rfl⟩), by simp⟩
  · exact ⟨.inr (.inr (.inl ⟨rfl, by omega⟩)), by simp⟩
  · exact ⟨.inr (.inr (.inr (.inl ⟨rfl, by omega⟩))), by simp⟩
  · exact ⟨.inr (.inr (.inr (.inr (.inl ⟨rfl, by omega⟩)))), by simp⟩
  · simp at hgo
    exact ⟨.inr (.inr (.inr (.inr (.inr (.inl ⟨rfl, by omega, by omega⟩))))), by simp⟩
  · simp at hgo
    exact ⟨.inr (.inr (.inr (.inr (.inr (.inr ⟨rfl, by omega, by omega⟩))))), by simp⟩
  · exfalso; simp at hgo
theorem tail_end {r y : Int} {ds : List Int} (hr0 : 0 ≤ r) (hr1 : r < 1114112) (h : Tail r y ds) (h4 : ¬ (ds.length < 4 ∨ 0 < y)) : ds = dg r := by
  rcases h with ⟨rfl, rfl⟩ | ⟨rfl, rfl⟩ | ⟨rfl, rfl⟩ | ⟨rfl, rfl⟩ | ⟨rfl, rfl⟩ | ⟨rfl, rfl, _⟩ | ⟨rfl, rfl, _⟩ <;> simp at h4
  · unfold dg
    rw [if_pos (by omega), show r / 4096 % 16 = r / 4096 by omega]
  · unfold dg
    rw [if_neg (by omega), if_pos (by omega), show r / 65536 % 16 = r / 65536 by omega]
  · unfold dg
    rw [if_neg (by omega), if_neg (by omega), show r / 1048576 % 16 = r / 1048576 by omega]
theorem tail_len {r y : Int} {ds : List Int} (hr0 : 0 ≤ r) (hr1 : r < 1114112) (h : Tail r y ds) : ds.length ≤ 6 ∧ 0 ≤ y ∧ y < 1114112 := by
  rcases h with ⟨rfl, rfl⟩ | ⟨rfl, rfl⟩ | ⟨rfl, rfl⟩ | ⟨rfl, rfl⟩ | ⟨rfl, rfl⟩ | ⟨rfl, rfl, _⟩ | ⟨rfl, rfl, _⟩ <;> simp <;> omega

def RefRel (W : World) (r : Int) (h x : Value) (w : World) : Prop :=
  ∃ (ds : List Int) (y : Int), x = .int .i64 y ∧ Hid (Tail r y ds) ∧ Own w W.heap.size 5 .u8 h ds ∧ Bel W w

theorem own_lit {w : World} {cs : Array Value} {l : List Int} {n : Nat} {k : IntKind} {t : TypeId} (h : cs.toList = l.map (Value.int k)) (hl : l.length = n) (hn : n ≤ 1000) : Own (w.alloc (.cells cs t)) w.heap.size t k (.slice (some ⟨w.heap.size, 0, none⟩) n n) l := by
  have e : cs = (l.map (Value.int k)).toArray := by rw [← h]
  refine ⟨by simp, .inr ⟨w.heap.size, n, cs, by rw [hl], Nat.le_refl _, heap_alloc_new w _, by omega, by simp only [maxLen]; omega, ?_, ?_⟩⟩
  · rw [e]; simp [hl]
  · rw [e, hl, Nat.mul_one]; exact List.take_of_length_le (by simp [hl])
theorem rd_mark {w : World} {cs : Array Value} {l : List Int} {k : IntKind} {t : TypeId} {fr : Nat × Nat} (h : cs.toList = l.map (Value.int k)) : Rd (w.alloc (.cells cs t fr)) (w.heap.size + 1) k (some ⟨w.heap.size, 0, none⟩) l := fun i x hx => by
  refine ⟨w.heap.size, 0, rfl, by omega, ?_⟩
  have e : cs = (l.map (Value.int k)).toArray := by rw [← h]
  have h1 := World.cell?_alloc_mark w cs t fr i
  rw [Nat.zero_add]
  refine h1.trans ?_
  rw [e]
  simp [hx]

theorem dig_at (d : Int) (h : d.toNat < (ByteArray.mk #[48, 49, 50, 51, 52, 53, 54, 55, 56, 57, 65, 66, 67, 68, 69, 70]).size) (h0 : 0 ≤ d) (h1 : d < 16) :
    ((((ByteArray.mk #[48, 49, 50, 51, 52, 53, 54, 55, 56, 57, 65, 66, 67, 68, 69, 70])[d.toNat]'h).toNat : Nat) : Int) = hx d := by
  obtain rfl | rfl | rfl | rfl | rfl | rfl | rfl | rfl | rfl | rfl | rfl | rfl | rfl | rfl | rfl | rfl : d = 0 ∨ d = 1 ∨ d = 2 ∨ d = 3 ∨ d = 4 ∨ d = 5 ∨ d = 6 ∨ d = 7 ∨ d = 8 ∨ d = 9 ∨ d = 10 ∨ d = 11 ∨ d = 12 ∨ d = 13 ∨ d = 14 ∨ d = 15 := by omega
  all_goals rfl
def lenV : Value → Nat
  | .slice _ n _ => n
  | _ => 0
def RefPost (w : World) (r : Int) (e : Ending) (w' : World) : Prop := ∃ v, e = .returned v ∧ Own w' w.heap.size 5 .u8 v (refL r) ∧ Bel w w'

set_option maxRecDepth 100000 in
set_option maxHeartbeats 2000000 in
theorem ref_any (r : Int) (w : World) : Calls Tryd.prog 12 #[.int .i32 r] w (RefPost w r) := by
  obtain ⟨i0, hi0, hz0, hz1, hz2⟩ := info_parts info5
  have kc := fun (w : World) (C : Array Value) (n c : Nat) => Lib.run_convert_bytes_const (P := Tryd.prog) w 24 5 C n c Tryd.underlying24 Tryd.underlying5
  by_cases hs : scB r = true
  · have hr := scB_true.1 hs
    obtain ⟨r0, r1, _⟩ := hr
    go_enter Tryd.func12, Tryd.ntmps12
    go_wp2_with (go_at_call 10; (with_reducible refine (rscalar_is _ true _ hs).mono ?_); rintro e w' ⟨rfl, rfl⟩)
    go_loopw [4, 5] (fun h x wr => RefRel w r h x wr) (fun h x _ => 4 - lenV h + (intOf x).toNat)
    case atStart => exact ⟨[], r, by first | rfl | go_num, Lib.hid (.inl ⟨rfl, rfl⟩), Own.nil _ _ _ _, Bel.refl _⟩
    case round =>
      obtain ⟨ds, y, rfl, HT, hown, hb⟩ := hrel
      obtain ⟨hd6, y0, y1⟩ := tail_len r0 r1 HT.out
      obtain ⟨A, cap, rfl, hcap, hrd, hnil⟩ := hown.rd
      obtain ⟨m, hm⟩ : ∃ m, ds.length = m := ⟨_, rfl⟩
      rw [hm] at hd6 hcap hown ⊢
      have HM := Lib.hid hm
      clear hm
      by_cases hgo : m < 4 ∨ 0 < y
      · have HN := Lib.hid (tail_next r0 r1 HT.out (by rw [HM.out]; exact hgo))
        have H1 := Lib.hid hrd
        have H2 := Lib.hid hnil
        have H3 := Lib.hid hown
        clear hrd hnil hown
        have y16 : 0 ≤ y % 16 ∧ y % 16 < 16 := by omega
        obtain ⟨z, hz⟩ : ∃ z, hx (y % 16) = z := ⟨_, rfl⟩
        rw [hz] at HN
        have hdg := fun h => (dig_at (y % 16) h y16.1 y16.2).trans hz
        clear hz
        by_cases h4 : m < 4
        · have q1 : (m : Int) < 4 := by omega
          clear hgo
          go_wp2_with (at_builtin; refine wpl_append (by rfl) (.tmp 22) (.tmp 23) 24 rfl Tryd.underlying24 hi0 hz0 hz1 hz2 rfl (by omega) (own_lit (n := 1) (l := [z]) rfl rfl (by omega)) rfl (H1.out.alloc _) rfl HM.out H2.out (by simp; omega) (by simp) ?_; intro v2 w2 hown2 hb2)
          have hsz := Below.size hb
          have hbw2 : Bel w w2 := Below.trans (hb.alloc _) (hb2.mono hsz)
          have hown3 := hown2.less hsz
          clear hown2
          obtain ⟨A3, c3, rfl, _, _, _⟩ := hown3.rd
          try go_wp2
          go_roundw
          case rel => exact ⟨z :: ds, y / 16, by first | rfl | go_num, Lib.hid HN.out.1, hown3, hbw2⟩
          case measure => have e1 := HM.out; simp [intOf, lenV]; omega
        · have q1 : ¬ (m : Int) < 4 := by omega
          have q2 : 0 < y := by omega
          clear hgo
          go_wp2_with (at_builtin; refine wpl_append (by rfl) (.tmp 22) (.tmp 23) 24 rfl Tryd.underlying24 hi0 hz0 hz1 hz2 rfl (by omega) (own_lit (n := 1) (l := [z]) rfl rfl (by omega)) rfl (H1.out.alloc _) rfl HM.out H2.out (by simp; omega) (by simp) ?_; intro v2 w2 hown2 hb2)
          have hsz := Below.size hb
          have hbw2 : Bel w w2 := Below.trans (hb.alloc _) (hb2.mono hsz)
          have hown3 := hown2.less hsz
          clear hown2
          obtain ⟨A3, c3, rfl, _, _, _⟩ := hown3.rd
          try go_wp2
          go_roundw
          case rel => exact ⟨z :: ds, y / 16, by first | rfl | go_num, Lib.hid HN.out.1, hown3, hbw2⟩
          case measure => have e1 := HM.out; simp [intOf, lenV]; omega
      · have q1 : ¬ (m : Int) < 4 := by omega
        have q2 : ¬ 0 < y := by omega
        have HE := Lib.hid (tail_end r0 r1 HT.out (by rw [HM.out]; exact hgo))
        have hsz := Below.size hb
        have hr1 := (hrd.alloc (.cells #[.int .u8 38, .int .u8 35, .int .u8 120] 5 (3, 4)))
        have HR := Lib.hid hr1
        clear hgo hown hrd hr1
        go_wp2_with (first
          | (at_builtin; refine wpl_append_ext (by rfl) (.tmp 28) (.tmp 29) 24 rfl Tryd.underlying24 hi0 hz0 hz1 hz2 rfl (by omega) (base := wr.heap.size) (.inr ⟨wr.heap.size, 0, rfl, (rd_mark (l := [38, 35, 120]) rfl).here⟩) rfl HR.out rfl HM.out (by omega) (by simp; omega) (by simp) ?_; intro v2 w2 hown2 hb2; have hw2 : Bel wr w2 := Below.trans ((Bel.refl wr).alloc _) hb2; have hs2 := Below.size hw2; have hown3 := hown2.keep ((Bel.refl w2).alloc (.cells #[.int .u8 59] 5)))
          | (at_builtin; refine wpl_append (by rfl) (.tmp 30) (.tmp 31) 24 rfl Tryd.underlying24 hi0 hz0 hz1 hz2 rfl (by omega) hown3 rfl (rd_lit (l := [59]) rfl) rfl rfl (fun e => by cases e) (by simp; have := HM.out; omega) (by simp; omega) ?_; intro v4 w4 hown4 hb4))
        go_ret
        refine ⟨v4, rfl, ?_, Below.trans ((hb.trans hw2).alloc _) (hb4.mono hsz)⟩
        have e : refL r = [38, 35, 120] ++ ds ++ [59] := by rw [ref_yes hs, HE.out]; simp
        rw [e]
        exact hown4.less hsz
  · have hs' : scB r = false := by simpa using hs
    go_enter Tryd.func12, Tryd.ntmps12
    go_wp2_with (go_at_call 10; (with_reducible refine (rscalar_is _ false _ hs').mono ?_); rintro e w' ⟨rfl, rfl⟩)
    go_ret
    exact ⟨_, rfl, by rw [ref_no hs']; exact Own.nil _ _ _ _, Bel.refl _⟩
end Go.Proofs.YtfggeofknmdmfaaDoor.U
