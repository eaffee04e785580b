/- What the joiner's add does. -/
import Derived.Test.YtfgpgmfajjakpaaDoorReach
import Derived.StillTailTactics
namespace Go.Proofs.YtfgpgmfajjakpaaDoor.U
open Go.RowKit
set_option linter.unusedVariables false

/-- A row of the call's own that is not empty: its cells, and what a store makes of it. -/
theorem own_row {w : World} {base n : Nat} {v : Value} {l : List Int} (h : Own w base 21 .i32 v l) (hl : l.length = n) (h0 : 0 < n) :
    ∃ g cap, v = .slice (some ⟨g, 0, none⟩) n cap ∧ n ≤ cap ∧ base ≤ g ∧ g < w.heap.size ∧ (∀ i x, l[i]? = some x → w.cell? ⟨g, i, none⟩ = some (.int .i32 x) ∧ w.frozen? ⟨g, i, none⟩ = false) ∧
      ∀ i x, i < n → Own (w.setCell ⟨g, i, none⟩ (.int .i32 x)) base 21 .i32 v (l.set i x) := by
  subst hl
  rcases h.2 with ⟨_, h1⟩ | ⟨g, cap, cur, rfl, hb, hg, hc, hm, hs, ht⟩
  · omega
  · have hcell : ∀ (i : Nat) (x : Int), l[i]? = some x → cur[i]? = some (.int .i32 x) := fun i x hx => by
      have h1 : (cur.toList.take (l.length * 1))[i]? = some (.int .i32 x) := by rw [ht]; simp [hx]
      rw [List.getElem?_take, if_pos (by have := (List.getElem?_eq_some_iff.1 hx).1; omega)] at h1
      rw [← Array.getElem?_toList]
      exact h1
    refine ⟨g, cap, rfl, hc, hb, (Array.getElem?_eq_some_iff.1 hg).1, fun i x hx => ?_, fun i x hi => ?_⟩
    · rw [cell_of hg, frozen_of hg]
      exact ⟨hcell i x hx, by simp⟩
    · have hg' : (w.setCell ⟨g, i, none⟩ (.int .i32 x)).heap[g]? = some (.cells (cur.setIfInBounds i (.int .i32 x)) 21 (0, 0)) := by simp [World.setCell, Array.getElem?_modify, hg]
      refine ⟨by simp, .inr ⟨g, cap, _, by rw [List.length_set], hb, hg', by rw [List.length_set]; exact hc, hm, by simpa using hs, ?_⟩⟩
      apply List.ext_getElem?
      intro j
      rw [List.getElem?_take, List.length_set]
      by_cases hj : j < l.length * 1
      · rw [if_pos hj, Array.getElem?_toList, Array.getElem?_setIfInBounds, List.getElem?_map, List.getElem?_set]
        have hj' : j < l.length := by omega
        have hcs : cur[j]? = some (.int .i32 l[j]) := hcell j l[j] (by simp)
        by_cases hij : i = j
        · subst hij
          have : i < cur.size := (Array.getElem?_eq_some_iff.1 hcs).1
          simp [this, hj']
        · simp [hij, hcs, hj']
      · rw [if_neg hj]
        symm
        simp
        omega
theorem own_at {w : World} {base g n cap : Nat} {l : List Int} (h : Own w base 21 .i32 (.slice (some ⟨g, 0, none⟩) n cap) l) :
    (∀ i x, l[i]? = some x → w.cell? ⟨g, i, none⟩ = some (.int .i32 x) ∧ w.frozen? ⟨g, i, none⟩ = false) ∧ ∀ i x, i < n → Own (w.setCell ⟨g, i, none⟩ (.int .i32 x)) base 21 .i32 (.slice (some ⟨g, 0, none⟩) n cap) (l.set i x) := by
  by_cases h0 : 0 < l.length
  · obtain ⟨g', cap', he, _, _, _, h1, h2⟩ := own_row h rfl h0
    simp only [Value.slice.injEq, Option.some.injEq, Addr.mk.injEq, and_true] at he
    obtain ⟨rfl, rfl, rfl⟩ := he
    exact ⟨h1, h2⟩
  · have hn : n = 0 := by
      obtain ⟨A, c, he, _⟩ := h.rd
      simp only [Value.slice.injEq] at he
      omega
    subst hn
    refine ⟨fun i x hx => ?_, fun i x hi => by omega⟩
    have := (List.getElem?_eq_some_iff.1 hx).1
    omega
theorem Jst.setRow {B g i n cap : Nat} {w : World} {o o' : List Int} {s : Int} {u : Value} (h : Jst B w (.slice (some ⟨g, 0, none⟩) n cap) o s) (hg : B + 1 ≤ g) (h' : Own (w.setCell ⟨g, i, none⟩ u) (B + 1) 21 .i32 (.slice (some ⟨g, 0, none⟩) n cap) o') : Jst B (w.setCell ⟨g, i, none⟩ u) (.slice (some ⟨g, 0, none⟩) n cap) o' s :=
  ⟨by rw [Below.heap_setCell _ _ _ _ (by show B ≠ g; omega)]; exact h.1, h'⟩
theorem fr_row {B g i : Nat} (w : World) (u : Value) {v : Value} (hv : v.ownBlock = some g) : Fr B w v (w.setCell ⟨g, i, none⟩ u) v :=
  ⟨rfl, rfl, rfl, by simp, fun G hG hB hne => ⟨Below.heap_setCell _ _ _ _ (by show G ≠ g; intro e; exact hne (by rw [e]; exact hv)), hne⟩⟩
theorem Jst.set1 {B : Nat} {w : World} {v : Value} {o : List Int} {s : Int} (h : Jst B w v o s) (s' : Int) : Jst B (w.setCell ⟨B, 1, none⟩ (.int .i64 s')) v o s' := by
  refine ⟨by simp [World.setCell, Array.getElem?_modify, h.1], h.2.1, ?_⟩
  rcases h.2.2 with h | ⟨g, cap, cur, hv, hbg, hg, rest⟩
  · exact .inl h
  · exact .inr ⟨g, cap, cur, hv, hbg, by rw [Below.heap_setCell _ _ _ _ (by show g ≠ B; omega)]; exact hg, rest⟩
theorem fr_set1 {B : Nat} (w : World) (v u : Value) (i : Nat) : Fr B w v (w.setCell ⟨B, i, none⟩ u) v :=
  ⟨rfl, rfl, rfl, by simp, fun G hG hB hne => ⟨Below.heap_setCell _ _ _ _ (by exact hB), hne⟩⟩
theorem jadd_block {w w2 : World} {B : Nat} {v : Value} {o : List Int} {s : Int} (h : Jst B w v o s) (hg : w.grownBy w2 v.ownBlock) : w2.heap[B]? = some (.cells #[v, .int .i64 s] 33 (0, 0)) :=
  (hg.block B h.lt fun e => by have := (own_block h.2 e.symm).1; omega).trans h.1
theorem jset_block {w : World} {B : Nat} {v : Value} {s : Int} (h : w.heap[B]? = some (.cells #[v, .int .i64 s] 33 (0, 0))) (u : Value) : (w.setCell ⟨B, 0, none⟩ u).heap[B]? = some (.cells #[u, .int .i64 s] 33 (0, 0)) := by
  simp [World.setCell, Array.getElem?_modify, h]
theorem jadd_frame {w w2 : World} {B : Nat} {v v2 : Value} {o : List Int} {s : Int} (h : Jst B w v o s) (hg : w.grownBy w2 v.ownBlock) (hv : v2.ownBlock = v.ownBlock ∨ v2.ownBlock = some w.heap.size) (u : Value) : Fr B w v (w2.setCell ⟨B, 0, none⟩ u) v2 := by
  obtain ⟨h1, h2, h3, h4, h5⟩ := hg
  refine ⟨h1, h2, h3, by simpa using h4, fun G hG hB hne => ⟨?_, ?_⟩⟩
  · rw [Below.heap_setCell _ _ _ _ (by exact hB)]
    exact h5 G hG fun e => hne e.symm
  · rcases hv with e | e
    · rw [e]; exact hne
    · rw [e]; intro e'; have := Option.some.inj e'; omega
theorem Fr.belowJ {B : Nat} {w w' : World} {v v' : Value} {l : List Int} {s : Int} (h : Fr B w v w' v') (hs : Jst B w v l s) : Below B w w' := by
  obtain ⟨h1, h2, h3, h4, h5⟩ := h
  refine ⟨h1, h2, h3, h4, fun k hk => ?_⟩
  exact (h5 k (Nat.lt_trans hk hs.lt) (by omega) fun e => by have := (own_block hs.2 e).1; omega).1
def AddJPost (B : Nat) (w : World) (v : Value) (o : List Int) (s : Int) (e : Ending) (w' : World) : Prop := e = .returned (.tuple #[]) ∧ ∃ v', Jst B w' v' o s ∧ Fr B w v w' v'

/-- What the region holds on to. -/
def KeepJ (B g n cap k : Nat) (y : Int) (w1 w' : World) : Prop := w'.cell? ⟨B, 0, none⟩ = some (.slice (some ⟨g, 0, none⟩) n cap) ∧ w'.cell? ⟨B, 1, none⟩ = some (.int .i64 (k : Int)) ∧ w'.cell? ⟨g, k, none⟩ = some (.int .i32 y) ∧ (partAt ⟨B, 0, none⟩ 0 0).run Tryd.prog w' = .ok ⟨B, 0, none⟩ w' ∧ Bel w1 w'
theorem KeepJ.bel {B g n cap k : Nat} {y : Int} {w1 w' w'' : World} {v u : Value} (h : KeepJ B g n cap k y w1 w') (hh : w'.heap[B]? = some (.cells #[v, u] 33 (0, 0))) (hb : Bel w' w'') : KeepJ B g n cap k y w1 w'' :=
  ⟨cell_bel h.1 hb, cell_bel h.2.1 hb, cell_bel h.2.2.1 hb, jpart_is (by rw [hb.block B (Array.getElem?_eq_some_iff.1 hh).1]; exact hh), h.2.2.2.2.trans hb⟩
set_option maxRecDepth 100000 in
set_option maxHeartbeats 4000000 in
theorem addj_join (B k : Nat) (c y x : Int) (o : List Int) (v : Value) (w : World) (hs : Jst B w v o (k : Int)) (hS : Sp w) (hn : o.length ≤ 1099511627776) (hk : o[k]? = some y) (hr : rch o (k : Int) c = true) (hj : Jn y c x true) :
    Calls Tryd.prog 15 #[.pointer (some ⟨B, 0, none⟩), .int .i32 c] w (AddJPost B w v (o.set k x) (k : Int)) := by
  obtain ⟨n, hl⟩ : ∃ n, o.length = n := ⟨_, rfl⟩
  have hkn : k < n := by have := (List.getElem?_eq_some_iff.1 hk).1; omega
  have HR := Lib.hid (reach_is B c o (k : Int) true v w hs hS (.inr ⟨by omega, by omega⟩) hn hr)
  have HJ := Lib.hid (fun w => tjoin_is y c x true w hj)
  have HS := Lib.hid hs
  have HL := Lib.hid hl
  have HK := Lib.hid hk
  clear hs hr hj hS hl hk hn
  go_enter Tryd.func15, Tryd.ntmps15
  go_wp2_with fail
  with_reducible refine HR.out.mono ?_
  rintro e w1 ⟨rfl, g1⟩
  have hs1 := HS.out.bel g1.bel
  have HS1 := Lib.hid hs1
  obtain ⟨g, cap, rfl, hcap, hbg, hgs, hrow, hset⟩ := own_row hs1.2 HL.out (by omega)
  obtain ⟨c2, f2⟩ := hrow k y HK.out
  have c0 := hs1.c0
  have c1 := hs1.c1
  have hpt := jpart_is hs1.1
  have q0 : (0 : Int) ≤ (k : Int) := by omega
  have q1 : (k : Int) < (n : Int) := by omega
  have HB1 := Lib.hid g1.bel
  have HJJ : Hid (∀ w' : World, KeepJ B g n cap k y w1 w' → Calls Tryd.prog 22 #[.agg #[], .int .i32 y, .int .i32 c] w' fun e w'' => e = .returned (.tuple #[.int .i32 x, .bool true]) ∧ KeepJ B g n cap k y w1 w'') := Lib.hid fun w' hc =>
    (HJ.out w').mono fun e w'' he => ⟨he.1, hc.bel (HS1.out.bel hc.2.2.2.2).1 he.2⟩
  have HK1 : Hid (KeepJ B g n cap k y w1 w1.drew) := Lib.hid ⟨c0, c1, c2, jpart_is (w := w1.drew) hs1.1, (Bel.refl w1).drew⟩
  clear HR
  go_wp2
  go_region_held3 (fun w' => w'.cell? ⟨B, 0, none⟩ = some (.slice (some ⟨g, 0, none⟩) n cap) ∧ w'.cell? ⟨B, 1, none⟩ = some (.int .i64 (k : Int)) ∧ w'.cell? ⟨g, k, none⟩ = some (.int .i32 y) ∧ (partAt ⟨B, 0, none⟩ 0 0).run Tryd.prog w' = .ok ⟨B, 0, none⟩ w' ∧ Bel w1 w')
    (first | assumption | exact HK1.out) (first | (go_at_call 22; refine (HJJ.out _ (by assumption)).mono ?_; rintro e w2 ⟨rfl, hs2⟩) | fail)
  clear HJJ HK1 HJ c0 c1 c2 f2 hpt hrow hset hs1
  have HS2 := Lib.hid (HS1.out.bel hs2.2.2.2.2)
  obtain ⟨hrow2, hset2⟩ := own_at HS2.out.2
  have c0 := HS2.out.c0
  have c1 := HS2.out.c1
  obtain ⟨c2, f2⟩ := hrow2 k y HK.out
  have HF : Hid (Jst B ((w2.setCell ⟨g, k, none⟩ (.int .i32 x)).drew) (.slice (some ⟨g, 0, none⟩) n cap) (o.set k x) (k : Int) ∧ Fr B w (.slice (some ⟨g, 0, none⟩) n cap) (w2.setCell ⟨g, k, none⟩ (.int .i32 x)).drew (.slice (some ⟨g, 0, none⟩) n cap)) := Lib.hid ⟨(HS2.out.setRow (by omega) (hset2 k x hkn)).bel (Bel.refl _).drew, ((Fr.bel _ (HB1.out.trans hs2.2.2.2.2)).trans (fr_row w2 _ rfl)).trans (Fr.bel _ (Bel.refl _).drew)⟩
  clear hrow2 hset2 hs2 HS1 HB1
  go_wp2
  go_region
  go_wp2
  go_end0
  exact ⟨rfl, _, HF.out.1, HF.out.2⟩

/-- What is behind the append: the joiner holds the longer row. -/
theorem after_append {B : Nat} {w W w2 : World} {v v2 : Value} {o o' : List Int} {s : Int} (hb : Bel w W) (h : Jst B W v o s) (hg : W.grownBy w2 v.ownBlock) (hv : v2.ownBlock = v.ownBlock ∨ v2.ownBlock = some W.heap.size) (ho : Own w2 (B + 1) 21 .i32 v2 o') :
    Jst B (w2.setCell ⟨B, 0, none⟩ v2) v2 o' s ∧ Fr B w v (w2.setCell ⟨B, 0, none⟩ v2) v2 :=
  ⟨⟨jset_block (jadd_block h hg) _, own_set ho (by omega)⟩, (Fr.bel _ hb).trans (jadd_frame h hg hv _)⟩
set_option maxRecDepth 100000 in
set_option maxHeartbeats 4000000 in
theorem addj_no_mark (B n : Nat) (c s : Int) (o : List Int) (v : Value) (w : World) (hs : Jst B w v o s) (hS : Sp w) (hB : 0 < B) (hk : Ok o s) (hl : o.length = n) (hn : n + 1 ≤ 1099511627776) (hr : rch o s c = false) (hc : 0 < cls c) :
    Calls Tryd.prog 15 #[.pointer (some ⟨B, 0, none⟩), .int .i32 c] w (AddJPost B w v (o ++ [c]) s) := by
  obtain ⟨i0, hi0, hz0, hz1, hz2⟩ := info_parts info21
  have HC : Hid (decide (0 < cls c) = true) := Lib.hid (decide_eq_true hc)
  have HSp0 := Lib.hid hS
  have HL := Lib.hid hl
  obtain ⟨A, cap, rfl, _, _, _⟩ := hs.2.rdn hl
  have HR1 := Lib.hid (reach_is B c o s false _ w hs hS hk (by omega) hr)
  have HS := Lib.hid hs
  clear hs hr hS hl hk hc
  go_enter Tryd.func15, Tryd.ntmps15
  go_wp2_with fail
  with_reducible refine HR1.out.mono ?_
  rintro e w1 ⟨rfl, g1⟩
  have HSW := Lib.hid (HS.out.bel g1.bel)
  have HBW := Lib.hid g1.bel
  clear HR1 g1
  have c0 := HSW.out.c0
  have HR := Lib.hid (rd_lit_at (w := w1) (cs := #[.int .i32 c]) (t := 21) (k := .i32) (l := [c]) rfl rfl)
  have hs3 := HSW.out.bel ((Bel.refl w1).alloc (.cells #[.int .i32 c] 21))
  have HO := Lib.hid hs3.2
  have HS3 := Lib.hid hs3
  have HB3 := Lib.hid (show Bel w (w1.alloc (.cells #[.int .i32 c] 21)) from HBW.out.alloc _)
  have hsz : B + 1 ≤ (w1.alloc (.cells #[.int .i32 c] 21)).heap.size := hs3.lt
  have c9 : (w1.alloc (.cells #[.int .i32 c] 21)).cell? ⟨B, 0, none⟩ = some (.slice A n cap) := hs3.c0
  clear hs3
  go_wp2_with (first | (at_builtin; refine wpl_append_o (by rfl) (.tmp 43) (.tmp 45) 22 rfl Tryd.underlying22 hi0 hz0 hz1 hz2 rfl (by omega) HO.out rfl HR.out rfl rfl (by rw [HL.out]; simpa using hn) hsz ?_; intro v3 w3 hown3 hg3 hv3; obtain ⟨A3, cap3, rfl, -, -, -⟩ := hown3.rdn (n := n + 1) (by rw [List.length_append, HL.out]; rfl); have hblk := jadd_block HS3.out hg3; have c3 : w3.cell? ⟨B, 0, none⟩ = some (.slice A n cap) := (by simp [World.cell?, hblk]); have f3 : w3.frozen? ⟨B, 0, none⟩ = false := (by simp [World.frozen?, hblk])) | fail)
  have HA := Lib.hid (after_append HB3.out HS3.out hg3 hv3 hown3)
  have HSp := Lib.hid (HSp0.out.below (HA.out.2.belowJ HS.out) hB)
  clear hblk c3 f3 hown3 hg3 hv3 c0 c9 hsz HO HR HS3 HB3
  with_reducible refine (mark_is c true _ HSp.out HC.out).mono ?_
  rintro e w4 ⟨rfl, g4⟩
  have HF := Lib.hid (show Jst B w4 (.slice A3 (n + 1) cap3) (o ++ [c]) s ∧ Fr B w (.slice A n cap) w4 (.slice A3 (n + 1) cap3) from ⟨HA.out.1.bel g4.bel, HA.out.2.trans (Fr.bel _ g4.bel)⟩)
  clear HA HSp g4
  go_wp2
  go_end0
  exact ⟨rfl, _, HF.out.1, HF.out.2⟩
set_option maxRecDepth 100000 in
set_option maxHeartbeats 4000000 in
theorem addj_yes_mark (B n k : Nat) (c y x : Int) (o : List Int) (v : Value) (w : World) (hs : Jst B w v o (k : Int)) (hS : Sp w) (hB : 0 < B) (hl : o.length = n) (hn : n + 1 ≤ 1099511627776) (hk : o[k]? = some y) (hr : rch o (k : Int) c = true) (hj : Jn y c x false) (hc : 0 < cls c) :
    Calls Tryd.prog 15 #[.pointer (some ⟨B, 0, none⟩), .int .i32 c] w (AddJPost B w v (o ++ [c]) (k : Int)) := by
  obtain ⟨i0, hi0, hz0, hz1, hz2⟩ := info_parts info21
  have HC : Hid (decide (0 < cls c) = true) := Lib.hid (decide_eq_true hc)
  have HSp0 := Lib.hid hS
  have HL := Lib.hid hl
  have hkn : k < n := by have := (List.getElem?_eq_some_iff.1 hk).1; omega
  have HRR := Lib.hid (reach_is B c o (k : Int) true v w hs hS (.inr ⟨by omega, by omega⟩) (by omega) hr)
  have HJ := Lib.hid (fun w => tjoin_is y c x false w hj)
  have HS := Lib.hid hs
  have HK := Lib.hid hk
  clear hs hr hj hS hl hk hc
  go_enter Tryd.func15, Tryd.ntmps15
  go_wp2_with fail
  with_reducible refine HRR.out.mono ?_
  rintro e w1 ⟨rfl, g1⟩
  have hs1 := HS.out.bel g1.bel
  have HS1 := Lib.hid hs1
  obtain ⟨g, cap, rfl, hcap, hbg, hgs, hrow, hset⟩ := own_row hs1.2 HL.out (by omega)
  obtain ⟨c2, f2⟩ := hrow k y HK.out
  have c0 := hs1.c0
  have c1 := hs1.c1
  have hpt := jpart_is hs1.1
  have q0 : (0 : Int) ≤ (k : Int) := by omega
  have q1 : (k : Int) < (n : Int) := by omega
  have HB1 := Lib.hid g1.bel
  have HJJ : Hid (∀ w' : World, KeepJ B g n cap k y w1 w' → Calls Tryd.prog 22 #[.agg #[], .int .i32 y, .int .i32 c] w' fun e w'' => e = .returned (.tuple #[.int .i32 x, .bool false]) ∧ KeepJ B g n cap k y w1 w'') := Lib.hid fun w' hc =>
    (HJ.out w').mono fun e w'' he => ⟨he.1, hc.bel (HS1.out.bel hc.2.2.2.2).1 he.2⟩
  have HK1 : Hid (KeepJ B g n cap k y w1 w1.drew) := Lib.hid ⟨c0, c1, c2, jpart_is (w := w1.drew) hs1.1, (Bel.refl w1).drew⟩
  clear HRR
  go_wp2
  go_region_held3 (fun w' => w'.cell? ⟨B, 0, none⟩ = some (.slice (some ⟨g, 0, none⟩) n cap) ∧ w'.cell? ⟨B, 1, none⟩ = some (.int .i64 (k : Int)) ∧ w'.cell? ⟨g, k, none⟩ = some (.int .i32 y) ∧ (partAt ⟨B, 0, none⟩ 0 0).run Tryd.prog w' = .ok ⟨B, 0, none⟩ w' ∧ Bel w1 w')
    (first | assumption | exact HK1.out) (first | (go_at_call 22; refine (HJJ.out _ (by assumption)).mono ?_; rintro e w2 ⟨rfl, hs2⟩) | fail)
  clear HJJ HK1 HJ c0 c1 c2 f2 hpt hrow hset hs1
  have HSW := Lib.hid (HS1.out.bel hs2.2.2.2.2)
  have HBW := Lib.hid (HB1.out.trans hs2.2.2.2.2)
  clear hs2 HS1 HB1 g1
  clear hbg hgs
  have c0 := HSW.out.c0
  have HR := Lib.hid (rd_lit_at (w := w2) (cs := #[.int .i32 c]) (t := 21) (k := .i32) (l := [c]) rfl rfl)
  have hs3 := HSW.out.bel ((Bel.refl w2).alloc (.cells #[.int .i32 c] 21))
  have HO := Lib.hid hs3.2
  have HS3 := Lib.hid hs3
  have HB3 := Lib.hid (show Bel w (w2.alloc (.cells #[.int .i32 c] 21)) from HBW.out.alloc _)
  have hsz : B + 1 ≤ (w2.alloc (.cells #[.int .i32 c] 21)).heap.size := hs3.lt
  have c9 : (w2.alloc (.cells #[.int .i32 c] 21)).cell? ⟨B, 0, none⟩ = some (.slice (some ⟨g, 0, none⟩) n cap) := hs3.c0
  clear hs3
  go_wp2_with (first | (at_builtin; refine wpl_append_o (by rfl) (.tmp 43) (.tmp 45) 22 rfl Tryd.underlying22 hi0 hz0 hz1 hz2 rfl (by omega) HO.out rfl HR.out rfl rfl (by rw [HL.out]; simpa using hn) hsz ?_; intro v3 w3 hown3 hg3 hv3; obtain ⟨A3, cap3, rfl, -, -, -⟩ := hown3.rdn (n := n + 1) (by rw [List.length_append, HL.out]; rfl); have hblk := jadd_block HS3.out hg3; have c3 : w3.cell? ⟨B, 0, none⟩ = some (.slice (some ⟨g, 0, none⟩) n cap) := (by simp [World.cell?, hblk]); have f3 : w3.frozen? ⟨B, 0, none⟩ = false := (by simp [World.frozen?, hblk])) | fail)
  have HA := Lib.hid (after_append HB3.out HS3.out hg3 hv3 hown3)
  have HSp := Lib.hid (HSp0.out.below (HA.out.2.belowJ HS.out) hB)
  clear hblk c3 f3 hown3 hg3 hv3 c0 c9 hsz HO HR HS3 HB3
  with_reducible refine (mark_is c true _ HSp.out HC.out).mono ?_
  rintro e w4 ⟨rfl, g4⟩
  have HF := Lib.hid (show Jst B w4 (.slice A3 (n + 1) cap3) (o ++ [c]) (k : Int) ∧ Fr B w (.slice (some ⟨g, 0, none⟩) n cap) w4 (.slice A3 (n + 1) cap3) from ⟨HA.out.1.bel g4.bel, HA.out.2.trans (Fr.bel _ g4.bel)⟩)
  clear HA HSp g4
  go_wp2
  go_end0
  exact ⟨rfl, _, HF.out.1, HF.out.2⟩
set_option maxRecDepth 100000 in
set_option maxHeartbeats 4000000 in
theorem addj_no_start (B n : Nat) (c s : Int) (o : List Int) (v : Value) (w : World) (hs : Jst B w v o s) (hS : Sp w) (hB : 0 < B) (hk : Ok o s) (hl : o.length = n) (hn : n + 1 ≤ 1099511627776) (hr : rch o s c = false) (hc : cls c = 0) :
    Calls Tryd.prog 15 #[.pointer (some ⟨B, 0, none⟩), .int .i32 c] w (AddJPost B w v (o ++ [c]) (n : Int)) := by
  obtain ⟨i0, hi0, hz0, hz1, hz2⟩ := info_parts info21
  have HC : Hid (decide (0 < cls c) = false) := Lib.hid (decide_eq_false (p := 0 < cls c) (by omega))
  have HSp0 := Lib.hid hS
  have HL := Lib.hid hl
  obtain ⟨A, cap, rfl, _, _, _⟩ := hs.2.rdn hl
  have HR1 := Lib.hid (reach_is B c o s false _ w hs hS hk (by omega) hr)
  have HS := Lib.hid hs
  clear hs hr hS hl hk hc
  go_enter Tryd.func15, Tryd.ntmps15
  go_wp2_with fail
  with_reducible refine HR1.out.mono ?_
  rintro e w1 ⟨rfl, g1⟩
  have HSW := Lib.hid (HS.out.bel g1.bel)
  have HBW := Lib.hid g1.bel
  clear HR1 g1
  have c0 := HSW.out.c0
  have HR := Lib.hid (rd_lit_at (w := w1) (cs := #[.int .i32 c]) (t := 21) (k := .i32) (l := [c]) rfl rfl)
  have hs3 := HSW.out.bel ((Bel.refl w1).alloc (.cells #[.int .i32 c] 21))
  have HO := Lib.hid hs3.2
  have HS3 := Lib.hid hs3
  have HB3 := Lib.hid (show Bel w (w1.alloc (.cells #[.int .i32 c] 21)) from HBW.out.alloc _)
  have hsz : B + 1 ≤ (w1.alloc (.cells #[.int .i32 c] 21)).heap.size := hs3.lt
  have c9 : (w1.alloc (.cells #[.int .i32 c] 21)).cell? ⟨B, 0, none⟩ = some (.slice A n cap) := hs3.c0
  clear hs3
  go_wp2_with (first | (at_builtin; refine wpl_append_o (by rfl) (.tmp 43) (.tmp 45) 22 rfl Tryd.underlying22 hi0 hz0 hz1 hz2 rfl (by omega) HO.out rfl HR.out rfl rfl (by rw [HL.out]; simpa using hn) hsz ?_; intro v3 w3 hown3 hg3 hv3; obtain ⟨A3, cap3, rfl, -, -, -⟩ := hown3.rdn (n := n + 1) (by rw [List.length_append, HL.out]; rfl); have hblk := jadd_block HS3.out hg3; have c3 : w3.cell? ⟨B, 0, none⟩ = some (.slice A n cap) := (by simp [World.cell?, hblk]); have f3 : w3.frozen? ⟨B, 0, none⟩ = false := (by simp [World.frozen?, hblk])) | fail)
  have HA := Lib.hid (after_append HB3.out HS3.out hg3 hv3 hown3)
  have HSp := Lib.hid (HSp0.out.below (HA.out.2.belowJ HS.out) hB)
  clear hblk c3 f3 hown3 hg3 hv3 c0 c9 hsz HO HR HS3 HB3
  with_reducible refine (mark_is c false _ HSp.out HC.out).mono ?_
  rintro e w4 ⟨rfl, g4⟩
  have hs4 := HA.out.1.bel g4.bel
  have c4 := hs4.c0
  have c5 := hs4.c1
  have f5 := hs4.f1
  have HF := Lib.hid (show Jst B (w4.setCell ⟨B, 1, none⟩ (.int .i64 (n : Int))) (.slice A3 (n + 1) cap3) (o ++ [c]) (n : Int) ∧ Fr B w (.slice A n cap) (w4.setCell ⟨B, 1, none⟩ (.int .i64 (n : Int))) (.slice A3 (n + 1) cap3) from ⟨hs4.set1 _, (HA.out.2.trans (Fr.bel _ g4.bel)).trans (fr_set1 _ _ _ _)⟩)
  have q9 : ((n + 1 : Nat) : Int) - 1 = (n : Int) := by omega
  clear HA HSp g4 hs4
  go_wp2
  go_end0
  exact ⟨rfl, _, HF.out.1, HF.out.2⟩
set_option maxRecDepth 100000 in
set_option maxHeartbeats 4000000 in
theorem addj_yes_start (B n k : Nat) (c y x : Int) (o : List Int) (v : Value) (w : World) (hs : Jst B w v o (k : Int)) (hS : Sp w) (hB : 0 < B) (hl : o.length = n) (hn : n + 1 ≤ 1099511627776) (hk : o[k]? = some y) (hr : rch o (k : Int) c = true) (hj : Jn y c x false) (hc : cls c = 0) :
    Calls Tryd.prog 15 #[.pointer (some ⟨B, 0, none⟩), .int .i32 c] w (AddJPost B w v (o ++ [c]) (n : Int)) := by
  obtain ⟨i0, hi0, hz0, hz1, hz2⟩ := info_parts info21
  have HC : Hid (decide (0 < cls c) = false) := Lib.hid (decide_eq_false (p := 0 < cls c) (by omega))
  have HSp0 := Lib.hid hS
  have HL := Lib.hid hl
  have hkn : k < n := by have := (List.getElem?_eq_some_iff.1 hk).1; omega
  have HRR := Lib.hid (reach_is B c o (k : Int) true v w hs hS (.inr ⟨by omega, by omega⟩) (by omega) hr)
  have HJ := Lib.hid (fun w => tjoin_is y c x false w hj)
  have HS := Lib.hid hs
  have HK := Lib.hid hk
  clear hs hr hj hS hl hk hc
  go_enter Tryd.func15, Tryd.ntmps15
  go_wp2_with fail
  with_reducible refine HRR.out.mono ?_
  rintro e w1 ⟨rfl, g1⟩
  have hs1 := HS.out.bel g1.bel
  have HS1 := Lib.hid hs1
  obtain ⟨g, cap, rfl, hcap, hbg, hgs, hrow, hset⟩ := own_row hs1.2 HL.out (by omega)
  obtain ⟨c2, f2⟩ := hrow k y HK.out
  have c0 := hs1.c0
  have c1 := hs1.c1
  have hpt := jpart_is hs1.1
  have q0 : (0 : Int) ≤ (k : Int) := by omega
  have q1 : (k : Int) < (n : Int) := by omega
  have HB1 := Lib.hid g1.bel
  have HJJ : Hid (∀ w' : World, KeepJ B g n cap k y w1 w' → Calls Tryd.prog 22 #[.agg #[], .int .i32 y, .int .i32 c] w' fun e w'' => e = .returned (.tuple #[.int .i32 x, .bool false]) ∧ KeepJ B g n cap k y w1 w'') := Lib.hid fun w' hc =>
    (HJ.out w').mono fun e w'' he => ⟨he.1, hc.bel (HS1.out.bel hc.2.2.2.2).1 he.2⟩
  have HK1 : Hid (KeepJ B g n cap k y w1 w1.drew) := Lib.hid ⟨c0, c1, c2, jpart_is (w := w1.drew) hs1.1, (Bel.refl w1).drew⟩
  clear HRR
  go_wp2
  go_region_held3 (fun w' => w'.cell? ⟨B, 0, none⟩ = some (.slice (some ⟨g, 0, none⟩) n cap) ∧ w'.cell? ⟨B, 1, none⟩ = some (.int .i64 (k : Int)) ∧ w'.cell? ⟨g, k, none⟩ = some (.int .i32 y) ∧ (partAt ⟨B, 0, none⟩ 0 0).run Tryd.prog w' = .ok ⟨B, 0, none⟩ w' ∧ Bel w1 w')
    (first | assumption | exact HK1.out) (first | (go_at_call 22; refine (HJJ.out _ (by assumption)).mono ?_; rintro e w2 ⟨rfl, hs2⟩) | fail)
  clear HJJ HK1 HJ c0 c1 c2 f2 hpt hrow hset hs1
  have HSW := Lib.hid (HS1.out.bel hs2.2.2.2.2)
  have HBW := Lib.hid (HB1.out.trans hs2.2.2.2.2)
  clear hs2 HS1 HB1 g1
  clear hbg hgs
  have c0 := HSW.out.c0
  have HR := Lib.hid (rd_lit_at (w := w2) (cs := #[.int .i32 c]) (t := 21) (k := .i32) (l := [c]) rfl rfl)
  have hs3 := HSW.out.bel ((Bel.refl w2).alloc (.cells #[.int .i32 c] 21))
  have HO := Lib.hid hs3.2
  have HS3 := Lib.hid hs3
  have HB3 := Lib.hid (show Bel w (w2.alloc (.cells #[.int .i32 c] 21)) from HBW.out.alloc _)
  have hsz : B + 1 ≤ (w2.alloc (.cells #[.int .i32 c] 21)).heap.size := hs3.lt
  have c9 : (w2.alloc (.cells #[.int .i32 c] 21)).cell? ⟨B, 0, none⟩ = some (.slice (some ⟨g, 0, none⟩) n cap) := hs3.c0
  clear hs3
  go_wp2_with (first | (at_builtin; refine wpl_append_o (by rfl) (.tmp 43) (.tmp 45) 22 rfl Tryd.underlying22 hi0 hz0 hz1 hz2 rfl (by omega) HO.out rfl HR.out rfl rfl (by rw [HL.out]; simpa using hn) hsz ?_; intro v3 w3 hown3 hg3 hv3; obtain ⟨A3, cap3, rfl, -, -, -⟩ := hown3.rdn (n := n + 1) (by rw [List.length_append, HL.out]; rfl); have hblk := jadd_block HS3.out hg3; have c3 : w3.cell? ⟨B, 0, none⟩ = some (.slice (some ⟨g, 0, none⟩) n cap) := (by simp [World.cell?, hblk]); have f3 : w3.frozen? ⟨B, 0, none⟩ = false := (by simp [World.frozen?, hblk])) | fail)
  have HA := Lib.hid (after_append HB3.out HS3.out hg3 hv3 hown3)
  have HSp := Lib.hid (HSp0.out.below (HA.out.2.belowJ HS.out) hB)
  clear hblk c3 f3 hown3 hg3 hv3 c0 c9 hsz HO HR HS3 HB3
  with_reducible refine (mark_is c false _ HSp.out HC.out).mono ?_
  rintro e w4 ⟨rfl, g4⟩
  have hs4 := HA.out.1.bel g4.bel
  have c4 := hs4.c0
  have c5 := hs4.c1
  have f5 := hs4.f1
  have HF := Lib.hid (show Jst B (w4.setCell ⟨B, 1, none⟩ (.int .i64 (n : Int))) (.slice A3 (n + 1) cap3) (o ++ [c]) (n : Int) ∧ Fr B w (.slice (some ⟨g, 0, none⟩) n cap) (w4.setCell ⟨B, 1, none⟩ (.int .i64 (n : Int))) (.slice A3 (n + 1) cap3) from ⟨hs4.set1 _, (HA.out.2.trans (Fr.bel _ g4.bel)).trans (fr_set1 _ _ _ _)⟩)
  have q9 : ((n + 1 : Nat) : Int) - 1 = (n : Int) := by omega
  clear HA HSp g4 hs4
  go_wp2
  go_end0
  exact ⟨rfl, _, HF.out.1, HF.out.2⟩
end Go.Proofs.YtfgpgmfajjakpaaDoor.U
