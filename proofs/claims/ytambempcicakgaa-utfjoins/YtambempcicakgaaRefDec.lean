/- What the reference's Decode answers. At most 65536 bytes. -/
import Derived.Test.YtambempcicakgaaRefFirst
namespace Go.Proofs.Ytambempcicakgaa.U
open Go.RowKit

theorem MineR.keep {base : Nat} {w0 w w' : World} {v : Value} {l : List Int} (h : MineR base w0 v l w) (hb : Below w.heap.size w w') : MineR base w0 v l w' :=
  ⟨own_keep h.1 hb, h.2.1.trans (hb.mono h.2.2), Nat.le_trans h.2.2 hb.size⟩
theorem MineR.push' {base : Nat} {w0 w w1 : World} {o : Obj} {v : Value} {l : List Int} {x : Int} {g cap : Nat} (h : MineR base w0 v l w)
    (hown : w1.ownsRow base 21 1 (.slice (some ⟨g, 0, none⟩) (l.length + 1) cap) (l.length + 1) (cs32 l ++ [.int .i32 x]))
    (hg : (w.alloc o).grownBy w1 v.ownBlock) : MineR base w0 (.slice (some ⟨g, 0, none⟩) (l.length + 1) cap) (l ++ [x]) w1 := by
  obtain ⟨ho, hb, hs⟩ := h
  have hsz : w.heap.size + 1 ≤ w1.heap.size := by have := hg.size; simpa using this
  refine ⟨by simpa [cs32] using hown, ?_, by omega⟩
  exact (hb.alloc hs o).grown hg (by simp; omega) fun k hk => (ho.lt k hk).1

set_option maxHeartbeats 1000000 in
theorem rdecode_any (A : Option Addr) (l : List Int) (n c : Nat) (w : World) (hln : l.length = n) (h : Rd w w.heap.size .u8 A l) (hby : Bytes l) (hn : n ≤ 65536) (hcl : n ≤ c) :
    Calls Try.prog 12 #[.slice A n c] w (Dec2 w l) := by
  obtain ⟨i0, hi0, hz0, hz1, hz2⟩ := info_parts info21
  have HLN := Lib.hid hln
  clear hln
  go_enter Try.func12, Try.ntmps12
  go_wp2
  go_loopw [4, 5] (fun v i wr => DecRel w (w.alloc (.cells #[.int .i64 0, .int .i64 0] 27)) l v i wr) (fun _ i _ => n - (intOf i).toNat)
  case atStart => exact ⟨[], l, 0, rfl, rfl, rfl, by simp [AllSc], ⟨World.ownsRow_nil _ _ _ _, Below.refl _ _, by simp⟩⟩
  case round =>
    obtain ⟨rs, t, k, rfl, hk, hl, ha, hm⟩ := hrel
    have hbel := hm.2.1
    have hbs := hm.2.2
    have hc0 : wr.cell? ⟨w.heap.size, 0, none⟩ = some (.int .i64 0) := by
      rw [hbel.cell (p := ⟨w.heap.size, 0, none⟩) (by simp)]; simp
    have hc1 : wr.cell? ⟨w.heap.size, 1, none⟩ = some (.int .i64 0) := by
      rw [hbel.cell (p := ⟨w.heap.size, 1, none⟩) (by simp)]; simp
    have hf0 : wr.frozen? ⟨w.heap.size, 0, none⟩ = false := by
      rw [hbel.frozen (p := ⟨w.heap.size, 0, none⟩) (by simp)]; simp
    have hf1 : wr.frozen? ⟨w.heap.size, 1, none⟩ = false := by
      rw [hbel.frozen (p := ⟨w.heap.size, 1, none⟩) (by simp)]; simp
    have hlen : k + t.length = n := by rw [← HLN.out, hl]; simp [hk]
    have hrsl : rs.length ≤ k := by rw [hk]; exact encAll_ge ha
    have HK := Lib.hid hk
    have HL := Lib.hid hl
    have HT := Lib.hid hlen
    by_cases hlt : k < n
    · have hx : ∃ x, l[k]? = some x := ⟨l[k]'(by rw [HLN.out]; exact hlt), by simp [HLN.out, hlt]⟩
      obtain ⟨x, hx⟩ := hx
      obtain ⟨g, off, rfl, hg, hc⟩ := h k x hx
      have hrd : Rd wr (w.heap.size + 1) .u8 (some ⟨g, off + k, none⟩) t := by
        have h1 : Rd (w.alloc (.cells #[.int .i64 0, .int .i64 0] 27)) (w.heap.size + 1) .u8 (some ⟨g, off, none⟩) l := fun i x hx => by
          obtain ⟨g', o', e, hg', hc'⟩ := h i x hx
          exact ⟨g', o', e, by omega, (World.cell?_alloc_lt _ _ _ (by simpa using hg')).trans hc'⟩
        have h2 := h1.below hbel
        rw [hl] at h2
        exact h2.drop hk
      have hbt : Bytes t := fun y hy => hby y (by rw [hl]; simp [hy])
      have HRD := Lib.hid hrd
      have HBT := Lib.hid hbt
      clear hrd hbt hx hk hl hlen h hby
      go_wp2_with fail
      refine (rfirst_any _ _ _ t _ (by exact HRD.out.more hbs) (by have := HT.out; omega) HBT.out (by omega)).mono ?_
      rintro e w' ⟨r, n1, rfl, hF, hbF⟩
      have hm' := hm.keep hbF
      have hd0 : w'.cell? ⟨w.heap.size, 0, none⟩ = some (.int .i64 0) := (hbF.cell (p := ⟨w.heap.size, 0, none⟩) (by simp; omega)).trans hc0
      have hd1 : w'.cell? ⟨w.heap.size, 1, none⟩ = some (.int .i64 0) := (hbF.cell (p := ⟨w.heap.size, 1, none⟩) (by simp; omega)).trans hc1
      have he0 : w'.frozen? ⟨w.heap.size, 0, none⟩ = false := (hbF.frozen (p := ⟨w.heap.size, 0, none⟩) (by simp; omega)).trans hf0
      have he1 : w'.frozen? ⟨w.heap.size, 1, none⟩ = false := (hbF.frozen (p := ⟨w.heap.size, 1, none⟩) (by simp; omega)).trans hf1
      have hbs' := hm'.2.2
      clear hm hc0 hc1 hf0 hf1 hbF hbel hbs
      rcases hF with ⟨hs, hn1, t', ht'⟩ | ⟨rfl, rfl, hno⟩
      · have hp := ln_pos hs
        have hz : ((n1 : Int) == 0) = false := by simp; omega
        have hle : k + n1 ≤ n := by
          have h1 := HT.out
          rw [ht'] at h1
          simp [enc_length] at h1
          omega
        have hn4 : n1 ≤ 4 := by omega
        have HN1 := Lib.hid hn1
        have HT' := Lib.hid ht'
        have hn0 : 0 < n1 := by omega
        clear hn1 ht' hp
        go_wp2_with (at_builtin; refine wpList_append_lies _ rfl (.tmp 23) (.tmp 25) 24 rfl (w.heap.size + 1) 21 i0 (.int .i32 0) 1 4 Try.underlying24 hi0 hz0 hz1 hz2 rfl (by omega) _ rs.length (cs32 rs) rfl (World.ownsRow.alloc hm'.1 _) ⟨w'.heap.size, 0, none⟩ 1 1 [_] rfl rfl (World.news_of_block (heap_alloc_new _ _)) (by simp [Value.oneCell']) (by omega) (by simp only [maxLen]; omega) (by omega) (by simp; omega) _ rfl ?_; intro g2 cap2 w2 hown2 hgrow2 hat2 hlt2)
        have M2 := hm'.push' hown2 hgrow2
        clear hown2 hgrow2 hat2 hlt2 hm'
        try go_wp2
        go_roundw
        case rel => exact ⟨rs ++ [r], t', k + n1, by go_num, by rw [encAll_snoc, List.length_append, ← HK.out, enc_length, HN1.out], by rw [encAll_snoc, List.append_assoc, ← HT'.out]; exact HL.out, all_snoc ha hs, M2⟩
        case measure => simp [intOf]; omega
      · have HN := Lib.hid hno
        clear hno
        go_wp2
        refine bodyPost_ret (v := .tuple #[.slice none 0 0, .agg #[.int .i64 2, .int .i64 k]]) (by simp [results, Try.results12, go_sem, hd0, hd1]) rfl ?_
        exact ⟨_, [], 2, k, rfl, .inr ⟨rfl, rfl, rs, t, ha, HK.out, HL.out, fun e => by subst e; have := HT.out; simp at this; omega, HN.out⟩, World.ownsRow_nil _ _ _ _, DecBelow0 hm'⟩
    · go_wp2
      refine bodyPost_ret (v := .tuple #[_, .agg #[.int .i64 0, .int .i64 (0 : Nat)]]) (by simp [results, Try.results12, go_sem, hc0, hc1]; rfl) rfl ?_
      refine ⟨_, rs, 0, 0, rfl, ?_, ?_, ?_⟩
      · obtain rfl : t = [] := List.eq_nil_of_length_eq_zero (by have := HT.out; omega)
        exact .inl ⟨rfl, rfl, ha, by have := HL.out; simpa using this.symm⟩
      · exact own_less (ownsRow_setCell_below (ownsRow_setCell_below hm.1 (Nat.lt_succ_self _) _) (Nat.lt_succ_self _) _) (Nat.le_succ _)
      · exact DecBelow0 hm
end Go.Proofs.Ytambempcicakgaa.U
