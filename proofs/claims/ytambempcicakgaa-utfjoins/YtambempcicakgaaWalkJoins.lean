/- UtfJoins answers true at every two lists and every number; nothing that was there is changed. -/
import Derived.Test.YtambempcicakgaaRow2
namespace Go.Proofs.Ytambempcicakgaa.U
open Go.RowKit
attribute [local go_sem ↓] Go.wp_at_zero Go.wp_at_succ

theorem own_rdn {w : World} {base : Nat} {e : TypeId} {k : IntKind} {v : Value} {l : List Int} (h : w.ownsRow base e 1 v l.length (l.map (Value.int k))) :
    ∃ A cap, v = .slice A l.length cap ∧ l.length ≤ cap ∧ Rd w w.heap.size k A l ∧ (A = none → cap = 0) := by
  obtain ⟨A, cap, rfl, h1, h2⟩ := own_rd h
  refine ⟨A, cap, rfl, h1, h2, fun e => ?_⟩
  rcases h.2 with ⟨h3, _⟩ | ⟨g, c', cur, h3, _⟩
  · injection h3
  · subst e; injection h3 with h4; cases h4

def EncN (w0 : World) (out : List Int) (n : Nat) (E : Int) (at_ : Nat) (e : Ending) (w : World) : Prop :=
  ∃ A cap, e = .returned (.tuple #[.slice A n cap, .agg #[.int .i64 E, .int .i64 at_]]) ∧ n ≤ cap ∧ Rd w w.heap.size .u8 A out ∧ (A = none → cap = 0) ∧ Below w0.heap.size w0 w

theorem rencode_n (A : Option Addr) (l out : List Int) (n c m at_ : Nat) (E : Int) (w : World) (hl : l.length = n) (h : Rd w w.heap.size .i32 A l) (hn : n ≤ 10000) (hE : Encoded l out E at_) (hm : out.length = m) :
    Calls Try.prog 15 #[.slice A n c] w (EncN w out m E at_) := by
  subst hl
  refine (rencode_any A l c w h hn).mono ?_
  rintro e w' ⟨v, out', E', n', rfl, hd, hown, hbel⟩
  obtain ⟨rfl, rfl, rfl⟩ := encoded_one hd hE
  obtain ⟨A', cap, rfl, hcap, hr, hnl⟩ := own_rdn (k := .u8) hown
  subst hm
  exact ⟨A', cap, rfl, hcap, hr, hnl, hbel⟩

/-- Bytes of scalars, and the beginning of one more. -/
theorem cut_off {la lb t : List Int} {b0 : Int} {n : Nat} (ha : AllSc la) (hs : scB b0 = true) (hb : encAll lb = enc1 b0 ++ t) (h1 : 1 ≤ n) (h2 : n < ln b0) : Decoded (encAll la ++ (encAll lb).take n) [] 2 (encAll la).length := by
  have ht : (encAll lb).take n = (enc1 b0).take n := by rw [hb, List.take_append_of_le_length (by rw [enc_length]; omega)]
  refine .inr ⟨rfl, rfl, la, (encAll lb).take n, ha, rfl, rfl, ?_, ?_⟩
  · intro e
    rw [ht] at e
    have := congrArg List.length e
    simp [enc_length] at this
    omega
  · intro r u hr he
    rw [ht] at he
    have h3 : enc1 b0 ++ [] = enc1 r ++ (u ++ (enc1 b0).drop n) := by rw [← List.append_assoc, ← he, List.take_append_drop, List.append_nil]
    have h4 := (enc_inj hs hr h3).1
    subst h4
    have := congrArg List.length he
    simp [enc_length] at this
    omega

theorem joined {w : World} {base : Nat} {e : TypeId} {k : IntKind} {v : Value} {a b : List Int} {m n : Nat} (h : w.ownsRow base e 1 v (0 + m + n) (([] ++ a.map (Value.int k)) ++ b.map (Value.int k))) (hm : a.length = m) (hn : b.length = n) :
    ∃ A cap, v = .slice A (m + n) cap ∧ m + n ≤ cap ∧ Rd w w.heap.size k A (a ++ b) := by
  have h1 : w.ownsRow base e 1 v (a ++ b).length ((a ++ b).map (Value.int k)) := by simpa [hm, hn] using h
  obtain ⟨A, cap, rfl, h2, h3⟩ := own_rd h1
  have e1 : (a ++ b).length = m + n := by simp [hm, hn]
  rw [e1] at h2 ⊢
  exact ⟨A, cap, rfl, h2, h3⟩

/-- A block that holds an empty fault. -/
def FB (w : World) (p : Nat) : Prop := w.heap[p]? = some (.cells #[.int .i64 0, .int .i64 0] 27 (0, 0))
theorem FB.lt {w : World} {p : Nat} (h : FB w p) : p < w.heap.size := (Array.getElem?_eq_some_iff.1 h).1
theorem FB.new (w : World) : FB (w.alloc (.cells #[.int .i64 0, .int .i64 0] 27)) w.heap.size := heap_alloc_new w _
theorem FB.alloc {w : World} {p : Nat} (h : FB w p) (o : Obj) : FB (w.alloc o) p := (Below.heap_alloc w o p h.lt).trans h
theorem FB.below {w w' : World} {p : Nat} (h : FB w p) (hb : Below w.heap.size w w') : FB w' p := (hb.block p h.lt).trans h
theorem FB.grown {w w' : World} {p base n : Nat} {v : Value} {xs : List Value} (h : FB w p) (ho : w.ownsRow base 5 1 v n xs) (hg : w.grownBy w' v.ownBlock) : FB w' p := by
  refine (hg.block p h.lt ?_).trans h
  rcases ho.2 with ⟨rfl, _⟩ | ⟨g, cap, cur, rfl, _, hh, _⟩
  · simp [Value.ownBlock]
  · intro e
    have e' : p = g := by simpa [Value.ownBlock] using e
    subst e'
    unfold FB at h
    rw [hh] at h
    injection h with h
    injection h with _ h2
    cases h2
theorem FB.cells {w : World} {p : Nat} (h : FB w p) : w.cell? ⟨p, 0, none⟩ = some (.int .i64 0) ∧ w.cell? ⟨p, 1, none⟩ = some (.int .i64 0) ∧ w.frozen? ⟨p, 0, none⟩ = false ∧ w.frozen? ⟨p, 1, none⟩ = false := by
  unfold FB at h
  refine ⟨?_, ?_, ?_, ?_⟩
  · rw [cell_of_row w p 0 _ 27 (0, 0) h]; rfl
  · rw [cell_of_row w p 1 _ 27 (0, 0) h]; rfl
  · simp [World.frozen?, h]
  · simp [World.frozen?, h]

theorem bl_grown {W w w' : World} {base n : Nat} {v : Value} {xs : List Value} (h : Below W.heap.size W w) (ho : w.ownsRow base 5 1 v n xs) (hb : W.heap.size ≤ base) (hg : w.grownBy w' v.ownBlock) : Below W.heap.size W w' :=
  h.grown hg h.size fun k e => Nat.le_trans hb (ho.lt k e).1
theorem bl_trans {W w w' : World} (h : Below W.heap.size W w) (h2 : Below w.heap.size w w') : Below W.heap.size W w' := h.trans (h2.mono h.size)
theorem Rd.far {W w : World} {B : Nat} {k : IntKind} {A : Option Addr} {l : List Int} (h : Rd W B k A l) (hb : Below W.heap.size W w) (hB : B ≤ W.heap.size) : Rd w B k A l := h.below (hb.mono hB)

theorem rd_more {w : World} {A : Option Addr} {l : List Int} {k : IntKind} {o : Obj} (h : Rd w w.heap.size k A l) : Rd (w.alloc o) (w.alloc o).heap.size k A l := (h.alloc (Nat.le_refl _) o).more (by simp)

theorem cut_num {z : Int} {L : Nat} (h2 : 2 ≤ L) (h4 : L ≤ 4) : ∃ N : Nat, wrap64 (1 + z % ((L : Int) - 1)) = N ∧ 1 ≤ N ∧ N < L := by
  have h5 := Int.emod_nonneg z (show ((L : Int) - 1) ≠ 0 by omega)
  have h6 := Int.emod_lt_of_pos z (show (0 : Int) < (L : Int) - 1 by omega)
  generalize z % ((L : Int) - 1) = y at h5 h6 ⊢
  refine ⟨(1 + y).toNat, ?_, by omega, by omega⟩
  simp [wrap64]; omega

theorem decoded_join {a b : List Int} (ha : AllSc a) (hb : AllSc b) : Decoded (encAll a ++ encAll b) (a ++ b) 0 0 :=
  .inl ⟨rfl, rfl, fun x hx => by
    rcases List.mem_append.1 hx with h | h
    · exact ha x h
    · exact hb x h, encAll_append a b⟩
theorem bytes_join {a b : List Int} (ha : Bytes a) (hb : Bytes b) : Bytes (a ++ b) := fun x hx => by
  rcases List.mem_append.1 hx with h | h
  · exact ha x h
  · exact hb x h

set_option maxHeartbeats 2000000 in
set_option maxRecDepth 100000 in
theorem walk_joins (A B : Option Addr) (na ca nb cb : Nat) (la lb : List Int) (z : Int) (w : World) (h : Came .i32 w A na ca la) (h' : Came .i32 w B nb cb lb) (hz0 : 0 ≤ z) (hz1 : z < 256) :
    Calls Try.prog 6 #[.slice A na ca, .slice B nb cb, .int .u8 z] w fun e w' => e = .returned (.bool true) ∧ Below w.heap.size w w' := by
  obtain ⟨i0, hi0, hq0, hq1, hq2⟩ := info_parts info5
  obtain ⟨i1, hi1, hp0, hp1, hp2⟩ := info_parts info21
  obtain ⟨hl, hc, hrd, hnil, hwf⟩ := h
  obtain ⟨hl', hc', hrd', hnil', hwf'⟩ := h'
  have HL := Lib.hid hl
  have HR := Lib.hid hrd
  have HN := Lib.hid hnil
  have HL' := Lib.hid hl'
  have HR' := Lib.hid hrd'
  have HN' := Lib.hid hnil'
  clear hl hrd hnil hwf hl' hrd' hnil' hwf'
  by_cases hbig : 300 < na ∨ 300 < nb
  · by_cases hna : 300 < na
    · have hd1 : decide ((300 : Int) < (na : Int)) = true := by simp; omega
      clear hbig
      go_enter Try.func6, Try.ntmps6
      go_wp2_with (go_at_call 10; (with_reducible refine (answers_any _).mono ?_); rintro e w4 ⟨rfl, hb4⟩)
      go_ret
      exact ⟨rfl, hb4⟩
    · have hd1 : decide ((300 : Int) < (na : Int)) = false := by simp; omega
      have hd2 : decide ((300 : Int) < (nb : Int)) = true := by simp; omega
      clear hbig
      go_enter Try.func6, Try.ntmps6
      go_wp2_with (go_at_call 10; (with_reducible refine (answers_any _).mono ?_); rintro e w4 ⟨rfl, hb4⟩)
      go_ret
      exact ⟨rfl, hb4⟩
  · have hna : na ≤ 300 := by omega
    have hnb : nb ≤ 300 := by omega
    have hd1 : decide ((300 : Int) < (na : Int)) = false := by simp; omega
    have hd2 : decide ((300 : Int) < (nb : Int)) = false := by simp; omega
    clear hbig
    obtain ⟨ox, E1, a1, hE1, hol1⟩ := encoded_ex la
    obtain ⟨oy, E2, a2, hE2, hol2⟩ := encoded_ex lb
    obtain ⟨mx, hmx⟩ : ∃ m, ox.length = m := ⟨_, rfl⟩
    obtain ⟨my, hmy⟩ : ∃ m, oy.length = m := ⟨_, rfl⟩
    rw [HL.out, hmx] at hol1
    rw [HL'.out, hmy] at hol2
    have HE1 := Lib.hid hE1
    have HE2 := Lib.hid hE2
    have HMX := Lib.hid hmx
    have HMY := Lib.hid hmy
    clear hE1 hE2 hmx hmy
    go_enter Try.func6, Try.ntmps6
    go_wp2_with fail
    refine (rencode_n A la ox na ca mx a1 E1 w HL.out HR.out (by omega) HE1.out HMX.out).mono ?_
    rintro e w1 ⟨Ax, cx, rfl, hcx, hrx, hnx, hb1⟩
    have hz1' := hb1.size
    go_wp2_with fail
    refine (rencode_n B lb oy nb cb my a2 E2 _ HL'.out (by exact ((HR'.out.below hb1).more hz1').alloc (Nat.le_refl _) _ |>.more (by simp)) (by omega) HE2.out HMY.out).mono ?_
    rintro e w2 ⟨Ay, cy, rfl, hcy, hry, hny, hb2⟩
    have hb2' : Below (w1.heap.size + 1) (w1.alloc (.cells #[.int .i64 E1, .int .i64 a1] 27)) w2 := hb2.mono (by simp)
    have hF := two_cells hb2'
    have hzz2 : w1.heap.size + 1 ≤ w2.heap.size := by have := hb2'.size; simpa using this
    have hw2 : Below w.heap.size w w2 := (hb1.alloc hz1' _).trans (hb2'.mono (by omega))
    have HRX := Lib.hid (show Rd w2 w1.heap.size .u8 Ax ox from (hrx.alloc (Nat.le_refl _) _).below (hb2'.mono (by omega)))
    have HRY := Lib.hid hry
    have hlt2 : w1.heap.size < w2.heap.size := by omega
    have hf0 := hF.1
    have HNX := Lib.hid hnx
    have HNY := Lib.hid hny
    clear hb2 hb2' hF hrx hry hb1 hnx hny
    rcases HE1.out with ⟨rfl, rfl, hall1, hox⟩ | ⟨rfl, _, _⟩
    · rcases HE2.out with ⟨rfl, rfl, hall2, hoy⟩ | ⟨rfl, _, _⟩
      · have HA1 := Lib.hid hall1
        have HA2 := Lib.hid hall2
        have HOX := Lib.hid hox
        have HOY := Lib.hid hoy
        clear hall1 hall2 hox hoy
        obtain ⟨W2, hW2⟩ : ∃ W2, W2 = w2.alloc (.cells #[.int .i64 0, .int .i64 0] 27) := ⟨_, rfl⟩
        have hsz2 : W2.heap.size = w2.heap.size + 1 := by rw [hW2]; simp
        have hw2' : Below w.heap.size w W2 := by rw [hW2]; exact hw2.alloc hw2.size _
        have HRX2 := Lib.hid (show Rd (W2.alloc (.cells #[] 5)) w1.heap.size .u8 Ax ox by rw [hW2]; exact (HRX.out.alloc (by omega) _).alloc (by simp; omega) _)
        have HRY2 := Lib.hid (show Rd (W2.alloc (.cells #[] 5)) w2.heap.size .u8 Ay oy by rw [hW2]; exact (HRY.out.alloc (by omega) _).alloc (by simp) _)
        have hown0 : (W2.alloc (.cells #[] 5)).ownsRow (w2.heap.size + 1) 5 1 (.slice (some ⟨w2.heap.size + 1, 0, none⟩) 0 0) 0 [] := by
          have := own_empty W2 W2.heap.size 5 (Nat.le_refl _)
          rwa [hsz2] at this
        rw [hW2] at hown0 HRX2 HRY2
        have HW2 := Lib.hid hW2
        clear hW2 hsz2
        go_wp2_with (first
          | (at_builtin; refine wpList_append_rd rfl (.tmp 45) (.tmp 46) 22 rfl (w2.heap.size + 1) 5 i0 (.int .u8 0) 1 Try.underlying22 hi0 hq0 hq1 hq2 rfl _ 0 [] rfl hown0 w1.heap.size .u8 Ax mx cx ox rfl HRX2.out HMX.out HNX.out (by simp only [maxLen]; omega) (by omega) (by simp) ?_; intro v3 w3 hown3 hgrow3; have hry3 := HRY2.out.grown hgrow3 (by simp; omega) (fun g e => by have := (hown0.lt g e).1; omega); have hz3 := hgrow3.size)
          | (at_builtin; refine wpList_append_rd rfl (.tmp 47) (.tmp 48) 22 rfl (w2.heap.size + 1) 5 i0 (.int .u8 0) 1 Try.underlying22 hi0 hq0 hq1 hq2 rfl v3 (0 + mx) ([] ++ ox.map (Value.int .u8)) rfl hown3 w2.heap.size .u8 Ay my cy oy rfl hry3 HMY.out HNY.out (by simp only [maxLen]; omega) (by omega) (by simp at hz3; omega) ?_; intro v4 w4 hown4 hgrow4))
        have hb3 : Below w.heap.size w w3 := (hw2.alloc hw2.size _).alloc (by have := hw2.size; simp; omega) _ |>.grown hgrow3 (by have := hw2.size; simp; omega) fun g e => by have := (hown0.lt g e).1; have := hw2.size; omega
        have hrx3 := HRX2.out.grown hgrow3 (by simp; omega) (fun g e => by have := (hown0.lt g e).1; omega)
        have hz3' : w2.heap.size + 1 + 1 ≤ w3.heap.size := by simpa using hz3
        have hw4 : Below w.heap.size w w4 := hb3.grown hgrow4 (by have := hw2.size; omega) fun g e => by have := (hown3.lt g e).1; have := hw2.size; omega
        have hz4 := hgrow4.size
        have HRX4 := Lib.hid (hrx3.grown hgrow4 (by omega) fun g e => by have := (hown3.lt g e).1; omega)
        have HRY4 := Lib.hid (hry3.grown hgrow4 (by omega) fun g e => by have := (hown3.lt g e).1; omega)
        obtain ⟨A4, cap4, rfl, hcap4, hr4⟩ := joined hown4 HMX.out HMY.out
        have HD := Lib.hid (show Decoded (ox ++ oy) (la ++ lb) 0 0 by rw [HOX.out, HOY.out]; exact decoded_join HA1.out HA2.out)
        have HBY := Lib.hid (show Bytes (ox ++ oy) by rw [HOX.out, HOY.out]; exact bytes_join (encAll_bytes la) (encAll_bytes lb))
        have HLO := Lib.hid (show (ox ++ oy).length = mx + my by rw [List.length_append, HMX.out, HMY.out])
        have HLL := Lib.hid (show (la ++ lb).length = na + nb by rw [List.length_append, HL.out, HL'.out])
        clear hown4 hgrow4 hown3 hgrow3 hrx3 hry3 hb3 hown0 hw2 hf0
        refine (decode_is A4 (ox ++ oy) (la ++ lb) (mx + my) cap4 (na + nb) 0 0 w4 HLO.out hr4 HBY.out (by omega) hcap4 HD.out HLL.out).mono ?_
        rintro e w5 ⟨A5, cap5, rfl, hcap5, hr5, hb5⟩
        have hw5 : Below w.heap.size w w5 := hw4.trans (hb5.mono hw4.size)
        have hz5 := hb5.size
        have HRX5 := Lib.hid (HRX4.out.below (hb5.mono (by omega)))
        have HRY5 := Lib.hid (HRY4.out.below (hb5.mono (by omega)))
        clear hb5 hr4 hw4 HRX4 HRY4
        go_wp2_with fail
        refine (answers_any _).mono ?_
        rintro e w6 ⟨rfl, hb6⟩
        have hh0 : w6.cell? ⟨w5.heap.size, 0, none⟩ = some (.int .i64 0) := by
          rw [hb6.cell (p := ⟨w5.heap.size, 0, none⟩) (by simp)]; simp
        have hb56 : Below w5.heap.size w5 w6 := ((Below.refl _ _).alloc (Nat.le_refl _) _).trans (hb6.mono (by simp))
        have hw6 : Below w.heap.size w w6 := hw5.trans (hb56.mono hw5.size)
        have HR5 := Lib.hid (show Rd w6 w5.heap.size .i32 A5 (la ++ lb) from hr5.below hb56)
        have HRX6 := Lib.hid (HRX5.out.below (hb56.mono (by omega)))
        have HRY6 := Lib.hid (HRY5.out.below (hb56.mono (by omega)))
        have hz6 := hb56.size
        have hown7 := own_empty w6 w6.heap.size 21 (Nat.le_refl _)
        have HRA := Lib.hid (show Rd (w6.alloc (.cells #[] 21)) w.heap.size .i32 A la from (HR.out.below hw6).alloc hw6.size _)
        have HRB := Lib.hid (show Rd (w6.alloc (.cells #[] 21)) w.heap.size .i32 B lb from (HR'.out.below hw6).alloc hw6.size _)
        clear hb6 hb56 hr5 hw5 HRX5 HRY5
        have hzw := hw6.size
        go_wp2_with (first
          | (at_builtin; refine wpList_append_want (by rfl) (.tmp 62) (.tmp 63) 24 rfl w6.heap.size 21 i1 (.int .i32 0) 4 Try.underlying24 hi1 hp0 hp1 hp2 rfl _ 0 [] rfl hown7 w.heap.size .i32 A na ca la rfl HRA.out HL.out HN.out (by simp only [maxLen]; omega) (by omega) (by simp) ?_; intro v7 w7 hown8 hgrow8; have hrb8 := HRB.out.grown hgrow8 (by simp; omega) (fun g e => by have := (hown7.lt g e).1; omega); have hz8 := hgrow8.size)
          | (at_builtin; refine wpList_append_want (by rfl) (.tmp 64) (.tmp 65) 24 rfl w6.heap.size 21 i1 (.int .i32 0) 4 Try.underlying24 hi1 hp0 hp1 hp2 rfl v7 (0 + na) ([] ++ la.map (Value.int .i32)) rfl hown8 w.heap.size .i32 B nb cb lb rfl hrb8 HL'.out HN'.out (by simp only [maxLen]; omega) (by omega) (by simp at hz8; omega) ?_; intro v8 w8 hown9 hgrow9))
        have hw7 : Below w.heap.size w w7 := (hw6.alloc hzw _).grown hgrow8 (by simp; omega) fun g e => by have := (hown7.lt g e).1; omega
        have hz8' : w6.heap.size + 1 ≤ w7.heap.size := by simpa using hz8
        have hw8 : Below w.heap.size w w8 := hw7.grown hgrow9 (by omega) fun g e => by have := (hown8.lt g e).1; omega
        have hz9 := hgrow9.size
        have hr57 := (HR5.out.alloc hz6 (.cells #[] 21)).grown hgrow8 (by simp; omega) fun g e => by have := (hown7.lt g e).1; omega
        have HR58 := Lib.hid (hr57.grown hgrow9 (by omega) fun g e => by have := (hown8.lt g e).1; omega)
        have hrx7 := (HRX6.out.alloc (by omega) (.cells #[] 21)).grown hgrow8 (by simp; omega) fun g e => by have := (hown7.lt g e).1; omega
        have HRX8 := Lib.hid (hrx7.grown hgrow9 (by omega) fun g e => by have := (hown8.lt g e).1; omega)
        have hry7 := (HRY6.out.alloc (by omega) (.cells #[] 21)).grown hgrow8 (by simp; omega) fun g e => by have := (hown7.lt g e).1; omega
        have HRY8 := Lib.hid (hry7.grown hgrow9 (by omega) fun g e => by have := (hown8.lt g e).1; omega)
        obtain ⟨A8, cap8, rfl, hcap8, hr8⟩ := joined hown9 HL.out HL'.out
        clear hown9 hgrow9 hown8 hgrow8 hown7 hr57 hrx7 hry7 hrb8 hw7 hw6 HRX6 HRY6 HRA HRB hh0 HR5
        refine (runes_is A5 A8 (na + nb) (na + nb) cap5 cap8 (la ++ lb) (la ++ lb) _ _ true w8 HR58.out hr8 HLL.out HLL.out (by omega) (by simp)).mono ?_
        rintro e w9 ⟨rfl, q, rfl⟩
        have hw9 : Below w.heap.size w (w8.drewN q) := ⟨hw8.os, hw8.tape, hw8.output, hw8.size, hw8.block⟩
        have HRX9 := Lib.hid (show Rd (w8.drewN q) w1.heap.size .u8 Ax ox from HRX8.out)
        have HRY9 := Lib.hid (show Rd (w8.drewN q) w2.heap.size .u8 Ay oy from HRY8.out)
        have hsz9 : w2.heap.size + 1 ≤ (w8.drewN q).heap.size := by show _ ≤ w8.heap.size; omega
        clear hr8 hw8 HRX8 HRY8 HR58
        generalize w8.drewN q = W at hw9 HRX9 HRY9 hsz9 ⊢
        by_cases hnb0 : nb = 0
        · have hbq : ((nb : Int) == 0) = true := by simp [hnb0]
          clear hnb0
          go_wp2
          go_ret
          exact ⟨rfl, hw9⟩
        · have hbq : ((nb : Int) == 0) = false := by simp; omega
          obtain ⟨b0, hb0⟩ : ∃ b0, lb[0]? = some b0 := ⟨lb[0]'(by rw [HL'.out]; omega), by simp⟩
          have hsb := HA2.out b0 (List.mem_of_getElem? hb0)
          obtain ⟨g, off, rfl, hg, hcb⟩ := HR'.out 0 b0 hb0
          have hcb' : W.cell? ⟨g, off, none⟩ = some (.int .i32 b0) := (hw9.cell (p := ⟨g, off, none⟩) hg).trans hcb
          have hi0' : (0 : Int) < (nb : Int) := by omega
          obtain ⟨L, hL⟩ : ∃ L, ln b0 = L := ⟨_, rfl⟩
          have hLp := ln_pos hsb
          rw [hL] at hLp
          have HLb := Lib.hid (show (ln b0 : Int) = L by omega)
          have HB0 := Lib.hid hb0
          have HSB := Lib.hid hsb
          have HLL0 := Lib.hid hL
          clear hb0 hsb hL hcb
          by_cases hL1 : L = 1
          · have hlq : ((L : Int) == 1) = true := by simp [hL1]
            clear hL1
            go_wp2_with (go_at_call 20; (with_reducible refine (rlen_is _ L _ HLb.out).mono ?_); rintro e w' ⟨rfl, rfl⟩)
            go_ret
            exact ⟨rfl, hw9⟩
          · have hlq : ((L : Int) == 1) = false := by simp; omega
            have hL2 : (2 : Int) ≤ (L : Int) := by omega
            have hL4 : (L : Int) ≤ 4 := by omega
            clear hL1
            go_wp2_with (go_at_call 20; (with_reducible refine (rlen_is _ L _ HLb.out).mono ?_); rintro e w' ⟨rfl, rfl⟩)
            obtain ⟨N, hN, hN1, hN2⟩ := cut_num (z := z) (L := L) (by omega) hLp.2
            rw [hN]
            obtain ⟨t, hlb⟩ : ∃ t, lb = b0 :: t := by
              rcases lb with _ | ⟨x, t⟩
              · have := HB0.out; simp at this
              · have := HB0.out; simp at this; exact ⟨t, by rw [this]⟩
            have hoy : encAll lb = enc1 b0 ++ encAll t := by rw [hlb]; rfl
            have hmyL : L ≤ my := by rw [← HMY.out, HOY.out, hoy, List.length_append, enc_length, HLL0.out]; omega
            have HDC := Lib.hid (show Decoded (ox ++ oy.take N) [] 2 mx by
              have h1 := cut_off HA1.out HSB.out hoy hN1 (by rw [HLL0.out]; exact hN2)
              rw [← HOX.out, ← HOY.out, HMX.out] at h1
              exact h1)
            have HBC := Lib.hid (show Bytes (ox ++ oy.take N) by
              rw [HOX.out, HOY.out]
              exact bytes_join (encAll_bytes la) fun x hx => encAll_bytes lb x (List.mem_of_mem_take hx))
            have HLT := Lib.hid (show (oy.take N).length = N by rw [List.length_take, HMY.out]; omega)
            have HLC := Lib.hid (show (ox ++ oy.take N).length = mx + N by rw [List.length_append, HMX.out, HLT.out])
            have hB1 : w1.heap.size ≤ W.heap.size := by omega
            have hB2 : w2.heap.size ≤ W.heap.size := by omega
            have HBa := Lib.hid (show Below W.heap.size W (W.alloc (.cells #[] 5)).drew from ((Below.refl _ _).alloc (Nat.le_refl _) _).drew)
            have HBb := Lib.hid (show Below W.heap.size W ((W.alloc (.cells #[.int .i64 0, .int .i64 0] 27)).alloc (.cells #[] 5)).drew from (((Below.refl _ _).alloc (Nat.le_refl _) _).alloc (by simp) _).drew)
            have HBc := Lib.hid (show Below W.heap.size W ((W.alloc (.cells #[] 5)).alloc (.cells #[.int .i64 0, .int .i64 0] 27)).drew from (((Below.refl _ _).alloc (Nat.le_refl _) _).alloc (by simp) _).drew)
            have HOa := Lib.hid (show (W.alloc (.cells #[] 5)).drew.ownsRow W.heap.size 5 1 (.slice (some ⟨W.heap.size, 0, none⟩) 0 0) 0 [] from own_empty W W.heap.size 5 (Nat.le_refl _))
            have HOb := Lib.hid (show ((W.alloc (.cells #[.int .i64 0, .int .i64 0] 27)).alloc (.cells #[] 5)).drew.ownsRow W.heap.size 5 1 (.slice (some ⟨W.heap.size + 1, 0, none⟩) 0 0) 0 [] by
              have := own_empty (W.alloc (.cells #[.int .i64 0, .int .i64 0] 27)) W.heap.size 5 (by simp)
              have e : (W.alloc (.cells #[.int .i64 0, .int .i64 0] 27)).heap.size = W.heap.size + 1 := by simp
              rw [e] at this
              exact this)
            have HOc := Lib.hid (show ((W.alloc (.cells #[] 5)).alloc (.cells #[.int .i64 0, .int .i64 0] 27)).drew.ownsRow W.heap.size 5 1 (.slice (some ⟨W.heap.size, 0, none⟩) 0 0) 0 [] from (own_empty W W.heap.size 5 (Nat.le_refl _)).alloc _)
            have HFb := Lib.hid (show FB ((W.alloc (.cells #[.int .i64 0, .int .i64 0] 27)).alloc (.cells #[] 5)).drew W.heap.size from (FB.new W).alloc _)
            have HFc := Lib.hid (show FB ((W.alloc (.cells #[] 5)).alloc (.cells #[.int .i64 0, .int .i64 0] 27)).drew (W.heap.size + 1) by
              have := FB.new (W.alloc (.cells #[] 5))
              have e : (W.alloc (.cells #[] 5)).heap.size = W.heap.size + 1 := by simp
              rw [e] at this
              exact this)
            have HRX0 := Lib.hid HRX9.out
            have HRY0 := Lib.hid (HRY9.out.take N)
            have hszW := hw9.size
            have hk1 : (N : Int) ≤ (my : Int) := by omega
            have hk2 : (0 : Int) ≤ (N : Int) := by omega
            have hk3 : (N : Int) ≤ (cy : Int) := by omega
            have hk4 : N ≤ cy := by omega
            clear hN hlb hoy hcb' HRX9 HRY9 HR' HL hd1 hd2
            go_region_held3 (fun _ => True) (trivial)
              (first
                | (refine step_append_rd (by rfl) (.tmp 90) (.tmp 91) 22 (by rfl) W.heap.size 5 i0 (.int .u8 0) 1 Try.underlying22 hi0 hq0 hq1 hq2 rfl (.slice (some ⟨W.heap.size, 0, none⟩) 0 0) 0 [] (by rfl) (by with_reducible exact HOa.out) w1.heap.size .u8 Ax mx cx ox (by rfl) (HRX0.out.far HBa.out hB1) HMX.out HNX.out (by simp only [maxLen]; omega) (by omega) HBa.out.size ?_; intro v3 w3 hown3 hgrow3; have hbel3 := bl_grown HBa.out HOa.out (Nat.le_refl _) hgrow3; have hsz3 := hbel3.size)
                | (refine step_append_rd (by rfl) (.tmp 90) (.tmp 91) 22 (by rfl) W.heap.size 5 i0 (.int .u8 0) 1 Try.underlying22 hi0 hq0 hq1 hq2 rfl (.slice (some ⟨W.heap.size + 1, 0, none⟩) 0 0) 0 [] (by rfl) (by with_reducible exact HOb.out) w1.heap.size .u8 Ax mx cx ox (by rfl) (HRX0.out.far HBb.out hB1) HMX.out HNX.out (by simp only [maxLen]; omega) (by omega) HBb.out.size ?_; intro v3 w3 hown3 hgrow3; have hbel3 := bl_grown HBb.out HOb.out (Nat.le_refl _) hgrow3; have hsz3 := hbel3.size; have hfb := HFb.out.grown HOb.out hgrow3)
                | (refine step_append_rd (by rfl) (.tmp 90) (.tmp 91) 22 (by rfl) W.heap.size 5 i0 (.int .u8 0) 1 Try.underlying22 hi0 hq0 hq1 hq2 rfl (.slice (some ⟨W.heap.size, 0, none⟩) 0 0) 0 [] (by rfl) (by with_reducible exact HOc.out) w1.heap.size .u8 Ax mx cx ox (by rfl) (HRX0.out.far HBc.out hB1) HMX.out HNX.out (by simp only [maxLen]; omega) (by omega) HBc.out.size ?_; intro v3 w3 hown3 hgrow3; have hbel3 := bl_grown HBc.out HOc.out (Nat.le_refl _) hgrow3; have hsz3 := hbel3.size; have hfb := HFc.out.grown HOc.out hgrow3)
                | (refine step_append_rd (by rfl) (.tmp 92) (.tmp 95) 22 (by rfl) W.heap.size 5 i0 (.int .u8 0) 1 Try.underlying22 hi0 hq0 hq1 hq2 rfl v3 (0 + mx) ([] ++ ox.map (Value.int .u8)) (by rfl) (by with_reducible exact hown3) w2.heap.size .u8 Ay N cy (oy.take N) (by rfl) (HRY0.out.far hbel3 hB2) HLT.out HNY.out (by simp only [maxLen]; omega) (by omega) hsz3 ?_; intro v4 w4 hown4 hgrow4; have hbel4 := bl_grown hbel3 hown3 (Nat.le_refl _) hgrow4; have hsz4 := hbel4.size; have hfb4 := hfb.grown hown3 hgrow4; obtain ⟨A10, cap10, rfl, hcap10, hr10⟩ := joined hown4 HMX.out HLT.out)
                | (refine step_append_rd (by rfl) (.tmp 92) (.tmp 95) 22 (by rfl) W.heap.size 5 i0 (.int .u8 0) 1 Try.underlying22 hi0 hq0 hq1 hq2 rfl v3 (0 + mx) ([] ++ ox.map (Value.int .u8)) (by rfl) (by with_reducible exact hown3) w2.heap.size .u8 Ay N cy (oy.take N) (by rfl) (HRY0.out.far hbel3 hB2) HLT.out HNY.out (by simp only [maxLen]; omega) (by omega) hsz3 ?_; intro v4 w4 hown4 hgrow4; have hbel4 := bl_grown hbel3 hown3 (Nat.le_refl _) hgrow4; have hsz4 := hbel4.size; obtain ⟨A10, cap10, rfl, hcap10, hr10⟩ := joined hown4 HMX.out HLT.out)
                | (refine step_append_rd (by rfl) (.tmp 92) (.tmp 95) 22 (by rfl) W.heap.size 5 i0 (.int .u8 0) 1 Try.underlying22 hi0 hq0 hq1 hq2 rfl v3 (0 + mx) ([] ++ ox.map (Value.int .u8)) (by rfl) (by with_reducible exact (hown3.alloc (.cells #[.int .i64 0, .int .i64 0] 27))) w2.heap.size .u8 Ay N cy (oy.take N) (by rfl) (HRY0.out.far (hbel3.alloc hsz3 (.cells #[.int .i64 0, .int .i64 0] 27)) hB2) HLT.out HNY.out (by simp only [maxLen]; omega) (by omega) (hbel3.alloc hsz3 (.cells #[.int .i64 0, .int .i64 0] 27)).size ?_; intro v4 w4 hown4 hgrow4; have hbel4 := bl_grown (hbel3.alloc hsz3 (.cells #[.int .i64 0, .int .i64 0] 27)) (hown3.alloc (.cells #[.int .i64 0, .int .i64 0] 27)) (Nat.le_refl _) hgrow4; have hsz4 := hbel4.size; have hfb4 := (FB.new w3).grown (hown3.alloc (.cells #[.int .i64 0, .int .i64 0] 27)) hgrow4; obtain ⟨A10, cap10, rfl, hcap10, hr10⟩ := joined hown4 HMX.out HLT.out)
                | (go_simp; go_at_call 11; (with_reducible refine (decode_is _ _ [] _ _ 0 mx 2 _ HLC.out hr10 HBC.out (by omega) hcap10 HDC.out rfl).mono ?_); rintro e w11 ⟨A11, cap11, rfl, hcap11, hr11, hb11⟩; have hbel11 := bl_trans hbel4 hb11; have hsz11 := hbel11.size; obtain ⟨hs1, hs2, hs3, hs4⟩ := (hfb4.below hb11).cells)
                | (go_simp; go_at_call 11; (with_reducible refine (decode_is _ _ [] _ _ 0 mx 2 _ HLC.out hr10 HBC.out (by omega) hcap10 HDC.out rfl).mono ?_); rintro e w11 ⟨A11, cap11, rfl, hcap11, hr11, hb11⟩; have hbel11 := bl_trans hbel4 hb11; have hsz11 := hbel11.size)
                | (go_simp; go_at_call 11; (with_reducible refine (decode_is _ _ [] _ _ 0 mx 2 _ HLC.out (rd_more hr10) HBC.out (by omega) hcap10 HDC.out rfl).mono ?_); rintro e w11 ⟨A11, cap11, rfl, hcap11, hr11, hb11⟩; have hbel11 := bl_trans (hbel4.alloc hsz4 (.cells #[.int .i64 0, .int .i64 0] 27)) hb11; have hsz11 := hbel11.size; obtain ⟨hs1, hs2, hs3, hs4⟩ := ((FB.new w4).below hb11).cells))
            all_goals go_wp2
            all_goals go_ret
            all_goals have hfin : Below w.heap.size w w11 := hw9.trans (hbel11.mono hszW)
            all_goals first
              | exact ⟨rfl, hfin.alloc (by omega) _⟩
              | exact ⟨rfl, (hfin.setCell (by simp; omega) _).setCell (by simp; omega) _⟩
              | exact ⟨rfl, (hfin.setCell (by simp) _).setCell (by simp) _⟩
      · go_wp2_with (go_at_call 10; (with_reducible refine (answers_any _).mono ?_); rintro e w4 ⟨rfl, hb4⟩)
        go_ret
        exact ⟨rfl, (hw2.alloc hw2.size _).trans (hb4.mono (by have := hw2.size; simp; omega))⟩
    · go_wp2_with (go_at_call 10; (with_reducible refine (answers_any _).mono ?_); rintro e w4 ⟨rfl, hb4⟩)
      go_ret
      exact ⟨rfl, (hw2.alloc hw2.size _).trans (hb4.mono (by have := hw2.size; simp; omega))⟩
end Go.Proofs.Ytambempcicakgaa.U
