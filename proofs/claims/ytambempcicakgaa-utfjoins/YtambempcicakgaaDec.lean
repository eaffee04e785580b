/- What utf.Decode answers: the scalars of bytes, or where the first byte stands that begins none. At most 65536 bytes. -/
import Derived.Test.YtambempcicakgaaFirst
namespace Go.Proofs.Ytambempcicakgaa.U
open Go.RowKit

def Bytes (l : List Int) : Prop := ∀ x ∈ l, 0 ≤ x ∧ x < 256

theorem first_any (A : Option Addr) (n c : Nat) (l : List Int) (w : World) (B : Nat) (h : Rd w B .u8 A l) (hn : l.length = n) (hl : 0 < n) (hb : Bytes l) (hc : n ≤ c) :
    Calls Try.prog 21 #[.slice A n c] w (Fst w l) := by
  subst hn
  obtain ⟨b0, h0⟩ : ∃ b0, l[0]? = some b0 := ⟨l[0], by simp⟩
  obtain ⟨g, off, rfl, _, hc0⟩ := h 0 b0 h0
  have hcell : ∀ i x, l[i]? = some x → w.cell? ⟨g, off + i, none⟩ = some (.int .u8 x) := fun i x hx => by
    obtain ⟨g', off', e, _, hc'⟩ := h i x hx
    cases e
    exact hc'
  have hr := hb b0 (List.mem_of_getElem? h0)
  by_cases hs : l.length < an b0
  · exact first_bad g off c l b0 w h0 hr hl hc0 (.inr hs)
  · rcases an_cases b0 with h | h | h | h | h
    · exact first_1 g off c l b0 w h0 hr hb hc hcell h.2 (by omega)
    · exact first_bad g off c l b0 w h0 hr hl hc0 (.inl h.1)
    · exact first_2 g off c l b0 w h0 hr hb hc hcell h.2.2 (by omega)
    · exact first_3 g off c l b0 w h0 hr hb hc hcell h.2.2 (by omega)
    · exact first_4 g off c l b0 w h0 hr hb hc hcell h.2.2 (by omega)

theorem info21 : (Try.prog.info? 21).map (fun i => (i.zero, i.size, i.bytes)) = some (some (.int .i32 0), 1, 4) := by kernel_rfl

def cs32 (l : List Int) : List Value := l.map (Value.int .i32)

/-- The call's own row of characters, in a world that is as it was below 'base'. -/
def MineR (base : Nat) (w0 : World) (v : Value) (l : List Int) (w : World) : Prop :=
  w.ownsRow base 21 1 v l.length (cs32 l) ∧ Below base w0 w ∧ base ≤ w.heap.size

theorem MineR.push {base m : Nat} {w0 w w1 : World} {o : Obj} {v : Value} {l : List Int} {x : Int} {g cap : Nat} (h : MineR base w0 v l w)
    (hown : w1.ownsRow base 21 1 (.slice (some ⟨g, 0, none⟩) (l.length + 1) cap) (l.length + 1) (cs32 l ++ [.int .i32 x]))
    (hg : ((w.drewN m).alloc o).grownBy w1 v.ownBlock) : MineR base w0 (.slice (some ⟨g, 0, none⟩) (l.length + 1) cap) (l ++ [x]) w1 := by
  obtain ⟨ho, hb, hs⟩ := h
  have hsz : w.heap.size + 1 ≤ w1.heap.size := by have := hg.size; simpa using this
  have hb' : Below base w0 (w.drewN m) := ⟨hb.os, hb.tape, hb.output, hb.size, hb.block⟩
  refine ⟨by simpa [cs32] using hown, ?_, by omega⟩
  exact (hb'.alloc hs o).grown hg (by simp; omega) fun k hk => (ho.lt k hk).1

def Dec2 (w0 : World) (l : List Int) (e : Ending) (w : World) : Prop :=
  ∃ v out E, ∃ n : Nat, e = .returned (.tuple #[v, .agg #[.int .i64 E, .int .i64 n]]) ∧ Decoded l out E n ∧ w.ownsRow w0.heap.size 21 1 v out.length (cs32 out) ∧ Below w0.heap.size w0 w

def DecRel (w0 w1 : World) (l : List Int) (v at_ : Value) (w : World) : Prop :=
  ∃ rs t, ∃ k : Nat, at_ = .int .i64 k ∧ k = (encAll rs).length ∧ l = encAll rs ++ t ∧ AllSc rs ∧ MineR (w0.heap.size + 1) w1 v rs w

theorem Rd.drop {w : World} {B : Nat} {kd : IntKind} {g off k : Nat} {p t : List Int} (h : Rd w B kd (some ⟨g, off, none⟩) (p ++ t)) (hk : k = p.length) : Rd w B kd (some ⟨g, off + k, none⟩) t := fun i x hx => by
  obtain ⟨g', off', e, hg, hc⟩ := h (k + i) x (by subst hk; rw [List.getElem?_append_right (by omega)]; simpa using hx)
  cases e
  exact ⟨g, off + k, rfl, hg, by rw [Nat.add_assoc]; exact hc⟩
theorem Rd.drewN {w : World} {B n : Nat} {kd : IntKind} {A : Option Addr} {l : List Int} (h : Rd w B kd A l) : Rd (w.drewN n) B kd A l := h

theorem DecBelow {w wr : World} {o : Obj} {m : Nat} {b : Value} {l : List Int} {x y : Value} (hm : MineR (w.heap.size + 1) (w.alloc o) b l wr) :
    Below w.heap.size w (((wr.drewN m).setCell ⟨w.heap.size, 0, none⟩ x).setCell ⟨w.heap.size, 1, none⟩ y) := by
  have h1 := ((Below.refl _ _).alloc (Nat.le_refl _) o).trans (hm.2.1.mono (Nat.le_succ _))
  have h2 : Below w.heap.size w (wr.drewN m) := ⟨h1.os, h1.tape, h1.output, h1.size, h1.block⟩
  exact (h2.setCell (Nat.le_refl _) x).setCell (Nat.le_refl _) y
theorem DecBelow0 {w wr : World} {o : Obj} {b : Value} {l : List Int} {x y : Value} (hm : MineR (w.heap.size + 1) (w.alloc o) b l wr) :
    Below w.heap.size w ((wr.setCell ⟨w.heap.size, 0, none⟩ x).setCell ⟨w.heap.size, 1, none⟩ y) :=
  ((((Below.refl _ _).alloc (Nat.le_refl _) o).trans (hm.2.1.mono (Nat.le_succ _))).setCell (Nat.le_refl _) x).setCell (Nat.le_refl _) y

theorem all_snoc {rs : List Int} {r : Int} (ha : AllSc rs) (hs : scB r = true) : AllSc (rs ++ [r]) := fun x hx => by
  rcases List.mem_append.1 hx with h | h
  · exact ha x h
  · rw [List.mem_singleton.1 h]; exact hs

set_option maxHeartbeats 1000000 in
theorem decode_any (A : Option Addr) (l : List Int) (n c : Nat) (w : World) (hln : l.length = n) (h : Rd w w.heap.size .u8 A l) (hby : Bytes l) (hn : n ≤ 65536) (hcl : n ≤ c) :
    Calls Try.prog 11 #[.slice A n c] w (Dec2 w l) := by
  obtain ⟨i0, hi0, hz0, hz1, hz2⟩ := info_parts info21
  have HLN := Lib.hid hln
  clear hln
  go_enter Try.func11, Try.ntmps11
  go_wp2
  go_loopw [4, 5] (fun v i wr => DecRel w (w.alloc (.cells #[.int .i64 0, .int .i64 0] 27)) l v i wr) (fun _ i _ => n - (intOf i).toNat)
  case atStart => exact ⟨[], l, 0, rfl, rfl, rfl, by simp [AllSc], ⟨World.ownsRow_nil _ _ _ _, Below.refl _ _, by simp⟩⟩
  case round =>
    obtain ⟨rs, t, k, rfl, hk, hl, ha, hm⟩ := hrel
    have hbel := hm.2.1
    have hbs := hm.2.2
    have hc0 : wr.cell? ⟨w.heap.size, 0, none⟩ = some (.int .i64 0) := by
      rw [hbel.cell (p := ⟨w.heap.size, 0, none⟩) (by simp)]; simp
    have hc1 : wr.cell? ⟨w.heap.size, 1, none⟩ = some (.int .i64 0) := by
      rw [hbel.cell (p := ⟨w.heap.size, 1, none⟩) (by simp)]; simp
    have hf0 : wr.frozen? ⟨w.heap.size, 0, none⟩ = false := by
      rw [hbel.frozen (p := ⟨w.heap.size, 0, none⟩) (by simp)]; simp
    have hf1 : wr.frozen? ⟨w.heap.size, 1, none⟩ = false := by
      rw [hbel.frozen (p := ⟨w.heap.size, 1, none⟩) (by simp)]; simp
    have hlen : k + t.length = n := by rw [← HLN.out, hl]; simp [hk]
    have hrsl : rs.length ≤ k := by rw [hk]; exact encAll_ge ha
    have HK := Lib.hid hk
    have HL := Lib.hid hl
    have HT := Lib.hid hlen
    by_cases hlt : k < n
    · have hx : ∃ x, l[k]? = some x := ⟨l[k]'(by rw [HLN.out]; exact hlt), by simp [HLN.out, hlt]⟩
      obtain ⟨x, hx⟩ := hx
      obtain ⟨g, off, rfl, hg, hc⟩ := h k x hx
      have hrd : Rd wr (w.heap.size + 1) .u8 (some ⟨g, off + k, none⟩) t := by
        have h1 : Rd (w.alloc (.cells #[.int .i64 0, .int .i64 0] 27)) (w.heap.size + 1) .u8 (some ⟨g, off, none⟩) l := fun i x hx => by
          obtain ⟨g', o', e, hg', hc'⟩ := h i x hx
          exact ⟨g', o', e, by omega, (World.cell?_alloc_lt _ _ _ (by simpa using hg')).trans hc'⟩
        have h2 := h1.below hbel
        rw [hl] at h2
        exact h2.drop hk
      have hbt : Bytes t := fun y hy => hby y (by rw [hl]; simp [hy])
      have HRD := Lib.hid hrd
      have HBT := Lib.hid hbt
      clear hrd hbt hx hk hl hlen h hby
      go_wp2_with fail
      refine (first_any _ _ _ t _ _ HRD.out (by have := HT.out; omega) (by omega) HBT.out (by omega)).mono ?_
      rintro e w' ⟨r, n1, m, rfl, hF, rfl⟩
      rcases hF with ⟨hs, hn1, t', ht'⟩ | ⟨rfl, rfl, hno⟩
      · have hp := ln_pos hs
        have hz : ((n1 : Int) == 0) = false := by simp; omega
        have hle : k + n1 ≤ n := by
          have h1 := HT.out
          rw [ht'] at h1
          simp [enc_length] at h1
          omega
        have hn4 : n1 ≤ 4 := by omega
        have HN1 := Lib.hid hn1
        have HT' := Lib.hid ht'
        have hn0 : 0 < n1 := by omega
        clear hn1 ht' hp
        go_wp2_with (at_builtin; refine wpList_append_lies _ rfl (.tmp 23) (.tmp 25) 24 rfl (w.heap.size + 1) 21 i0 (.int .i32 0) 1 4 Try.underlying24 hi0 hz0 hz1 hz2 rfl (by omega) _ rs.length (cs32 rs) rfl (World.ownsRow.alloc (w := wr.drewN m) hm.1 _) ⟨wr.heap.size, 0, none⟩ 1 1 [_] rfl rfl (World.news_of_block (heap_alloc_new _ _)) (by simp [Value.oneCell']) (by omega) (by simp only [maxLen]; omega) (by omega) (by simp; omega) _ rfl ?_; intro g2 cap2 w2 hown2 hgrow2 hat2 hlt2)
        have M2 := hm.push hown2 hgrow2
        clear hown2 hgrow2 hat2 hlt2 hbel hm
        try go_wp2
        go_roundw
        case rel => exact ⟨rs ++ [r], t', k + n1, by go_num, by rw [encAll_snoc, List.length_append, ← HK.out, enc_length, HN1.out], by rw [encAll_snoc, List.append_assoc, ← HT'.out]; exact HL.out, all_snoc ha hs, M2⟩
        case measure => simp [intOf]; omega
      · have HN := Lib.hid hno
        clear hno
        go_wp2
        refine bodyPost_ret (v := .tuple #[.slice none 0 0, .agg #[.int .i64 2, .int .i64 k]]) (by simp [results, Try.results11, go_sem, hc0, hc1]) rfl ?_
        exact ⟨_, [], 2, k, rfl, .inr ⟨rfl, rfl, rs, t, ha, HK.out, HL.out, fun e => by subst e; have := HT.out; simp at this; omega, HN.out⟩, World.ownsRow_nil _ _ _ _, DecBelow hm⟩
    · go_wp2
      refine bodyPost_ret (v := .tuple #[_, .agg #[.int .i64 0, .int .i64 (0 : Nat)]]) (by simp [results, Try.results11, go_sem, hc0, hc1]; rfl) rfl ?_
      refine ⟨_, rs, 0, 0, rfl, ?_, ?_, ?_⟩
      · obtain rfl : t = [] := List.eq_nil_of_length_eq_zero (by have := HT.out; omega)
        exact .inl ⟨rfl, rfl, ha, by have := HL.out; simpa using this.symm⟩
      · exact own_less (ownsRow_setCell_below (ownsRow_setCell_below hm.1 (Nat.lt_succ_self _) _) (Nat.lt_succ_self _) _) (Nat.le_succ _)
      · exact DecBelow0 hm
end Go.Proofs.Ytambempcicakgaa.U
