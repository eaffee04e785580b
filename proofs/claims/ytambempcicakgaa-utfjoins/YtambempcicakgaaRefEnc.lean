/- What the reference's One and Encode answer. At most 10000 numbers. -/
import Derived.Test.YtambempcicakgaaSame
namespace Go.Proofs.Ytambempcicakgaa.U
open Go.RowKit

def NewRow (w0 : World) (l : List Int) (n : Nat) (e : Ending) (w : World) : Prop :=
  ∃ A cap, e = .returned (.slice A n cap) ∧ n ≤ cap ∧ Rd w w.heap.size .u8 A l ∧ Below w0.heap.size w0 w

theorem rd_lit' {w : World} {cs : Array Value} {l : List Int} {k : IntKind} {t : TypeId} (h : cs.toList = l.map (Value.int k)) : Rd (w.alloc (.cells cs t)) (w.alloc (.cells cs t)).heap.size k (some ⟨w.heap.size, 0, none⟩) l := by
  have e : cs = (l.map (Value.int k)).toArray := by rw [← h]
  rw [e]
  exact rd_new w k t l

set_option maxHeartbeats 1000000 in
theorem one_any (r : Int) (n : Nat) (w : World) (hn : ln r = n) (hb : -2147483648 ≤ r ∧ r < 2147483648) : Calls Try.prog 24 #[.int .i32 r] w (NewRow w (enc1 r) n) := by
  have HN := Lib.hid hn
  have HM := Lib.hid (show (ln r : Int) = n by omega)
  rcases ln_cases r with ⟨hs, hl⟩ | ⟨hs, h1, h2, hl⟩ | ⟨hs, h1, h2, hl⟩ | ⟨hs, h1, h2, hl⟩ | ⟨hs, h1, h2, hl⟩
  · obtain rfl : n = 0 := by omega
    clear hn hl
    go_enter Try.func24, Try.ntmps24
    go_wp2_with (go_at_call 20; (with_reducible refine (rlen_is _ 0 _ HM.out).mono ?_); rintro e w' ⟨rfl, rfl⟩)
    go_ret
    exact ⟨none, 0, rfl, Nat.le_refl _, fun i x hx => by rw [enc_0 HN.out] at hx; simp at hx, Below.refl _ _⟩
  · obtain rfl : n = 1 := by omega
    clear hn hl
    go_enter Try.func24, Try.ntmps24
    go_wp2_with (go_at_call 20; (with_reducible refine (rlen_is _ 1 _ HM.out).mono ?_); rintro e w' ⟨rfl, rfl⟩)
    go_ret
    exact ⟨_, 1, rfl, Nat.le_refl _, rd_lit' (by rw [enc_1 HN.out]; rfl), (Below.refl _ _).alloc (Nat.le_refl _) _⟩
  · obtain rfl : n = 2 := by omega
    clear hn hl
    go_enter Try.func24, Try.ntmps24
    go_wp2_with (go_at_call 20; (with_reducible refine (rlen_is _ 2 _ HM.out).mono ?_); rintro e w' ⟨rfl, rfl⟩)
    go_ret
    exact ⟨_, 2, rfl, Nat.le_refl _, rd_lit' (by rw [enc_2 HN.out]; rfl), (Below.refl _ _).alloc (Nat.le_refl _) _⟩
  · obtain rfl : n = 3 := by omega
    clear hn hl
    go_enter Try.func24, Try.ntmps24
    go_wp2_with (go_at_call 20; (with_reducible refine (rlen_is _ 3 _ HM.out).mono ?_); rintro e w' ⟨rfl, rfl⟩)
    go_ret
    exact ⟨_, 3, rfl, Nat.le_refl _, rd_lit' (by rw [enc_3 HN.out]; rfl), (Below.refl _ _).alloc (Nat.le_refl _) _⟩
  · obtain rfl : n = 4 := by omega
    clear hn hl
    go_enter Try.func24, Try.ntmps24
    go_wp2_with (go_at_call 20; (with_reducible refine (rlen_is _ 4 _ HM.out).mono ?_); rintro e w' ⟨rfl, rfl⟩)
    go_ret
    exact ⟨_, 4, rfl, Nat.le_refl _, rd_lit' (by rw [enc_4 HN.out]; rfl), (Below.refl _ _).alloc (Nat.le_refl _) _⟩

theorem addr_add (g off j : Nat) : (⟨g, off, none⟩ : Addr).add j = ⟨g, off + j, none⟩ := by unfold Addr.add; split <;> simp_all

/-- The cells of a slice, as those that are to be appended. -/
theorem Rd.news {w : World} {B g off : Nat} {k : IntKind} {l : List Int} (h : Rd w B k (some ⟨g, off, none⟩) l) : ∀ j u, (l.map (Value.int k))[j]? = some u → w.cell? ((⟨g, off, none⟩ : Addr).add j) = some u := fun j u hu => by
  rw [List.getElem?_map] at hu
  obtain ⟨x, hx, rfl⟩ := Option.map_eq_some_iff.1 hu
  obtain ⟨g', o', e, _, hc⟩ := h j x hx
  cases e
  rw [addr_add]; exact hc
theorem one_cells (k : IntKind) (l : List Int) : ∀ u ∈ l.map (Value.int k), u.oneCell' = true := fun u hu => by
  obtain ⟨x, _, rfl⟩ := List.mem_map.1 hu; rfl

theorem Mine.join {base m : Nat} {w0 w w' w1 : World} {v : Value} {l ys : List Int} {g cap : Nat} (h : Mine base w0 v l w) (hb : Below w.heap.size w w')
    (hown : w1.ownsRow base 5 1 (.slice (some ⟨g, 0, none⟩) (l.length + m) cap) (l.length + m) (cs8 l ++ ys.map (Value.int .u8)))
    (hg : w'.grownBy w1 v.ownBlock) (hm : ys.length = m) : Mine base w0 (.slice (some ⟨g, 0, none⟩) (l.length + m) cap) (l ++ ys) w1 := by
  obtain ⟨ho, hb0, hs⟩ := h
  have h1 := hb.size
  have h2 := hg.size
  refine ⟨by simpa [cs8, hm] using hown, ?_, by omega⟩
  exact (hb0.trans (hb.mono hs)).grown hg (by omega) fun k hk => (ho.lt k hk).1

theorem own_keep {base : Nat} {w w' : World} {e : TypeId} {v : Value} {n : Nat} {xs : List Value} (h : w.ownsRow base e 1 v n xs) (hb : Below w.heap.size w w') : w'.ownsRow base e 1 v n xs := by
  refine ⟨h.1, ?_⟩
  rcases h.2 with h | ⟨g, cap, cur, hv, hbg, hg, rest⟩
  · exact .inl h
  · exact .inr ⟨g, cap, cur, hv, hbg, by rw [hb.block g (Array.getElem?_eq_some_iff.1 hg).1]; exact hg, rest⟩

set_option maxHeartbeats 1000000 in
theorem rencode_any (A : Option Addr) (l : List Int) (c : Nat) (w : World) (h : Rd w w.heap.size .i32 A l) (hn : l.length ≤ 10000) :
    Calls Try.prog 15 #[.slice A l.length c] w (Enc2 w l) := by
  obtain ⟨i0, hi0, hz0, hz1, hz2⟩ := info_parts info5
  go_enter Try.func15, Try.ntmps15
  go_wp2
  go_loopw [4, 5] (fun b i wr => EncRel w (w.alloc (.cells #[.int .i64 0, .int .i64 0] 27)) l b i wr) (fun _ i _ => l.length - (intOf i).toNat)
  case atStart => exact ⟨0, Nat.zero_le _, rfl, by simp [AllSc], ⟨World.ownsRow_nil _ _ _ _, Below.refl _ _, by simp⟩⟩
  case round =>
    obtain ⟨k, hk, rfl, ha, hm⟩ := hrel
    have hbel := hm.2.1
    have hbs := hm.2.2
    have hc0 : wr.cell? ⟨w.heap.size, 0, none⟩ = some (.int .i64 0) := by
      rw [hbel.cell (p := ⟨w.heap.size, 0, none⟩) (by simp)]; simp
    have hc1 : wr.cell? ⟨w.heap.size, 1, none⟩ = some (.int .i64 0) := by
      rw [hbel.cell (p := ⟨w.heap.size, 1, none⟩) (by simp)]; simp
    have hf0 : wr.frozen? ⟨w.heap.size, 0, none⟩ = false := by
      rw [hbel.frozen (p := ⟨w.heap.size, 0, none⟩) (by simp)]; simp
    have hf1 : wr.frozen? ⟨w.heap.size, 1, none⟩ = false := by
      rw [hbel.frozen (p := ⟨w.heap.size, 1, none⟩) (by simp)]; simp
    by_cases hlt : k < l.length
    · obtain ⟨x, hx⟩ : ∃ x, l[k]? = some x := ⟨l[k], by simp [hlt]⟩
      obtain ⟨g, off, rfl, hg, hc⟩ := h k x hx
      have hc' : wr.cell? ⟨g, off + k, none⟩ = some (.int .i32 x) := by
        rw [hbel.cell (p := ⟨g, off + k, none⟩) (by simp; omega), World.cell?_alloc_lt _ _ _ (by simpa using hg)]; exact hc
      have HX := Lib.hid hx
      have HH := Lib.hid h
      clear hx h hc
      by_cases hs : scB x = true
      · obtain ⟨n1, hn1⟩ : ∃ n, ln x = n := ⟨_, rfl⟩
        have hp := ln_pos hs
        have hxb := scB_true.1 hs
        have hsm := enc_small (k := k) hn
        have HN1 := Lib.hid hn1
        rw [hn1] at hp
        clear hn1
        go_wp2_with (go_at_call 18; (with_reducible refine (rscalar_is _ true _ hs).mono ?_); rintro e w' ⟨rfl, rfl⟩)
        refine (one_any x n1 _ HN1.out (by omega)).mono ?_
        rintro e w1 ⟨A1, cap1, rfl, hcap1, hr1, hb1⟩
        obtain ⟨y, hy⟩ : ∃ y, (enc1 x)[0]? = some y := ⟨(enc1 x)[0]'(by rw [enc_length, HN1.out]; omega), by simp⟩
        obtain ⟨g1, o1, rfl, hg1, _⟩ := hr1 0 y hy
        have hzz := hb1.size
        have hown1 := own_keep hm.1 hb1
        have HY := Lib.hid hy
        clear hy
        go_wp2_with (at_builtin; refine wpList_append_lies _ rfl (.tmp 20) (.tmp 25) 22 rfl (w.heap.size + 1) 5 i0 (.int .u8 0) 1 1 Try.underlying22 hi0 hz0 hz1 hz2 rfl (by omega) _ (encAll (l.take k)).length (cs8 (encAll (l.take k))) rfl hown1 ⟨g1, o1, none⟩ n1 cap1 ((enc1 x).map (Value.int .u8)) rfl (by simp [enc_length, HN1.out]) hr1.news (one_cells _ _) (by omega) (by simp only [maxLen]; omega) (by omega) (by omega) _ rfl ?_; intro g2 cap2 w2 hown2 hgrow2 hat2 hlt2)
        have M2 := hm.join hb1 hown2 hgrow2 (by rw [enc_length, HN1.out])
        go_roundw
        case rel => exact ⟨k + 1, by omega, by go_num, EncStep1 HX.out ha hs, by rw [take_snoc HX.out, encAll_snoc]; exact M2⟩
        case measure => simp [intOf]; omega
      · have hs' : scB x = false := by simpa using hs
        go_wp2_with (go_at_call 18; (with_reducible refine (rscalar_is _ false _ hs').mono ?_); rintro e w' ⟨rfl, rfl⟩)
        refine bodyPost_ret (v := .tuple #[.slice none 0 0, .agg #[.int .i64 2, .int .i64 k]]) (by simp [results, Try.results15, go_sem, hc0, hc1]) rfl ?_
        exact ⟨_, [], 2, k, rfl, encoded_no HX.out ha hs', World.ownsRow_nil _ _ _ _, EncBelow hm⟩
    · obtain rfl : k = l.length := by omega
      go_wp2
      refine bodyPost_ret (v := .tuple #[_, .agg #[.int .i64 0, .int .i64 (0 : Nat)]]) (by simp [results, Try.results15, go_sem, hc0, hc1]; rfl) rfl ?_
      refine ⟨_, encAll l, 0, 0, rfl, ?_, ?_, ?_⟩
      · exact .inl ⟨rfl, rfl, by simpa using ha, rfl⟩
      · have := hm.1
        rw [List.take_length] at this
        exact own_less (ownsRow_setCell_below (ownsRow_setCell_below this (Nat.lt_succ_self _) _) (Nat.lt_succ_self _) _) (Nat.le_succ _)
      · exact EncBelow hm

end Go.Proofs.Ytambempcicakgaa.U
