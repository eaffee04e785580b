/- UtfEncodes answers true at every list; nothing that was there is changed. -/
import Derived.Test.YtambempcicakgaaRow
import Derived.Test.YtambempcicakgaaWalkLeast
namespace Go.Proofs.Ytambempcicakgaa.U
open Go.RowKit

/-- A row that the call made, and what is below it. -/
theorem below_of_grown {w w1 : World} {o : Obj} {row : Option Nat} (h : (w.alloc o).grownBy w1 row) (hr : ∀ k, row = some k → w.heap.size ≤ k) : Below w.heap.size w w1 :=
  ((Below.refl _ _).alloc (Nat.le_refl _) o).grown h (by simp) hr

def EncIs (w0 : World) (out : List Int) (n : Nat) (E : Int) (at_ : Nat) (e : Ending) (w : World) : Prop :=
  ∃ A cap, e = .returned (.tuple #[.slice A n cap, .agg #[.int .i64 E, .int .i64 at_]]) ∧ n ≤ cap ∧ Rd w w.heap.size .u8 A out ∧ Below w0.heap.size w0 w

theorem encIs_of {w0 w : World} {l out : List Int} {m at_ : Nat} {E : Int} {e : Ending} (hE : Encoded l out E at_) (hm : out.length = m) (h : Enc2 w0 l e w) : EncIs w0 out m E at_ e w := by
  obtain ⟨v, out', E', n', rfl, hd, hown, hbel⟩ := h
  obtain ⟨rfl, rfl, rfl⟩ := encoded_one hd hE
  obtain ⟨A', cap, rfl, hcap, hr⟩ := own_rd (k := .u8) hown
  subst hm
  exact ⟨A', cap, rfl, hcap, hr, hbel⟩

theorem encode_is (A : Option Addr) (l out : List Int) (n c m at_ : Nat) (E : Int) (w : World) (hl : l.length = n) (h : Rd w w.heap.size .i32 A l) (hn : n ≤ 10000) (hE : Encoded l out E at_) (hm : out.length = m) :
    Calls Try.prog 14 #[.slice A n c] w (EncIs w out m E at_) := by
  subst hl
  exact (encode_any A l c w h hn).mono fun e w' hh => encIs_of hE hm hh
theorem rencode_is (A : Option Addr) (l out : List Int) (n c m at_ : Nat) (E : Int) (w : World) (hl : l.length = n) (h : Rd w w.heap.size .i32 A l) (hn : n ≤ 10000) (hE : Encoded l out E at_) (hm : out.length = m) :
    Calls Try.prog 15 #[.slice A n c] w (EncIs w out m E at_) := by
  subst hl
  exact (rencode_any A l c w h hn).mono fun e w' hh => encIs_of hE hm hh

theorem encoded_ex (l : List Int) : ∃ out E, ∃ n : Nat, Encoded l out E n ∧ out.length ≤ 4 * l.length := by
  by_cases h : AllSc l
  · exact ⟨encAll l, 0, 0, .inl ⟨rfl, rfl, h, rfl⟩, encAll_length l⟩
  · have : ∃ rs s t, AllSc rs ∧ scB s = false ∧ l = rs ++ s :: t := by
      induction l with
      | nil => exact absurd (by simp [AllSc]) h
      | cons x l ih =>
        by_cases hx : scB x = true
        · obtain ⟨rs, s, t, h1, h2, h3⟩ := ih (fun hl => h (fun y hy => by
            rcases List.mem_cons.1 hy with rfl | hy
            · exact hx
            · exact hl y hy))
          exact ⟨x :: rs, s, t, fun y hy => by
            rcases List.mem_cons.1 hy with rfl | hy
            · exact hx
            · exact h1 y hy, h2, by rw [h3]; rfl⟩
        · exact ⟨[], x, l, by simp [AllSc], by simpa using hx, rfl⟩
    obtain ⟨rs, s, t, h1, h2, h3⟩ := this
    exact ⟨[], 2, rs.length, .inr ⟨rfl, rfl, rs, s, t, h1, h2, h3, rfl⟩, by simp⟩

/-- Cells of a block that the call made, kept by what is called behind it. -/
theorem two_cells {w w1 : World} {x y : Value} {t : TypeId} (h : Below (w.heap.size + 1) (w.alloc (.cells #[x, y] t)) w1) :
    w1.cell? ⟨w.heap.size, 0, none⟩ = some x ∧ w1.cell? ⟨w.heap.size, 1, none⟩ = some y := by
  constructor
  · rw [h.cell (p := ⟨w.heap.size, 0, none⟩) (by simp)]; simp
  · rw [h.cell (p := ⟨w.heap.size, 1, none⟩) (by simp)]; simp

set_option maxHeartbeats 1000000 in
set_option maxRecDepth 100000 in
theorem walk_encodes (A : Option Addr) (n c : Nat) (l : List Int) (w : World) (h : Came .i32 w A n c l) :
    Calls Try.prog 4 #[.slice A n c] w fun e w' => e = .returned (.bool true) ∧ Below w.heap.size w w' := by
  obtain ⟨i0, hi0, hz0, hz1, hz2⟩ := info_parts info21
  obtain ⟨hl, hc, hrd, hnil, hwf⟩ := h
  have HL := Lib.hid hl
  have HR := Lib.hid hrd
  have HN := Lib.hid hnil
  have HW := Lib.hid hwf
  clear hl hrd hnil hwf
  by_cases hbig : 1000 < n
  · go_enter Try.func4, Try.ntmps4
    go_wp2_with (go_at_call 10; (with_reducible refine (answers_any _).mono ?_); rintro e w4 ⟨rfl, hb4⟩)
    go_ret
    exact ⟨rfl, hb4⟩
  · have hown0 := own_empty w w.heap.size 21 (Nat.le_refl _)
    go_enter Try.func4, Try.ntmps4
    go_wp2_with (at_builtin; refine wpList_append_rd rfl (.tmp 14) (.tmp 15) 24 rfl w.heap.size 21 i0 (.int .i32 0) 4 Try.underlying24 hi0 hz0 hz1 hz2 rfl _ 0 [] rfl hown0 w.heap.size .i32 A n c l rfl (HR.out.alloc (Nat.le_refl _) _) HL.out HN.out (by simp only [maxLen]; omega) (by omega) (by simp) ?_; intro v1 w1 hown1 hgrow1)
    have hw1 : Below w.heap.size w w1 := below_of_grown hgrow1 fun k hk => (hown0.lt k hk).1
    have hown1' : w1.ownsRow w.heap.size 21 1 v1 l.length (l.map (Value.int .i32)) := by rw [HL.out]; simpa using hown1
    obtain ⟨A1, cap1, hv1, hcap1, hr1⟩ := own_rd hown1'
    rw [HL.out] at hv1 hcap1
    subst hv1
    obtain ⟨out, E, at_, hE, hol⟩ := encoded_ex l
    obtain ⟨m, hm⟩ : ∃ m, out.length = m := ⟨_, rfl⟩
    rw [HL.out, hm] at hol
    have HM := Lib.hid hm
    have HE := Lib.hid hE
    clear hE hm hown1 hgrow1 hown0 hown1'
    refine (encode_is A1 l out n cap1 m at_ E w1 HL.out hr1 (by omega) HE.out HM.out).mono ?_
    rintro e w2 ⟨A2, cap2, rfl, hcap2, hr2, hb2⟩
    have hw2 : Below w.heap.size w w2 := hw1.trans (hb2.mono hw1.size)
    have hz2 := hw2.size
    clear hr1 hb2 hw1
    go_wp2_with fail
    refine (rencode_is A l out n c m at_ E _ HL.out (by exact ((HR.out.below hw2).more hz2).alloc (Nat.le_refl _) _ |>.more (by simp)) (by omega) HE.out HM.out).mono ?_
    rintro e w3 ⟨A3, cap3, rfl, hcap3, hr3, hb3⟩
    have hb3' : Below (w2.heap.size + 1) (w2.alloc (.cells #[.int .i64 E, .int .i64 at_] 27)) w3 := hb3.mono (by simp)
    have hw3 : Below w.heap.size w w3 := (hw2.alloc hz2 _).trans (hb3'.mono (by omega))
    have hz3 : w2.heap.size + 1 ≤ w3.heap.size := by have := hb3'.size; simpa using this
    have hR2 : Rd w3 w2.heap.size .u8 A2 out := (hr2.alloc (Nat.le_refl _) _).below (hb3'.mono (by omega))
    have hF := two_cells hb3'
    clear hb3 hb3' hr2 hw2
    go_wp2_with fail
    refine (answers_any _).mono ?_
    rintro e w4 ⟨rfl, hb4⟩
    have hb4' : Below (w3.heap.size + 1) (w3.alloc (.cells #[.int .i64 E, .int .i64 at_] 27)) w4 := hb4.mono (by simp)
    have hb5 : Below w3.heap.size w3 w4 := ((Below.refl _ _).alloc (Nat.le_refl _) _).trans (hb4'.mono (by omega))
    have hG := two_cells hb4'
    have hw4 : Below w.heap.size w w4 := hw3.trans (hb5.mono hw3.size)
    have hf0 : w4.cell? ⟨w2.heap.size, 0, none⟩ = some (.int .i64 E) := by rw [hb5.cell (p := ⟨w2.heap.size, 0, none⟩) (by simp; omega)]; exact hF.1
    have hf1 : w4.cell? ⟨w2.heap.size, 1, none⟩ = some (.int .i64 at_) := by rw [hb5.cell (p := ⟨w2.heap.size, 1, none⟩) (by simp; omega)]; exact hF.2
    have hg0 := hG.1
    have hg1 := hG.2
    have hR2' : Rd w4 w3.heap.size .u8 A2 out := (hR2.more (by omega)).below hb5
    have hR3' : Rd w4 w3.heap.size .u8 A3 out := hr3.below hb5
    have hR : Rd w4 w.heap.size .i32 A l := HR.out.below hw4
    have hz4 : w3.heap.size + 1 ≤ w4.heap.size := by have := hb4'.size; simpa using this
    have HR2 := Lib.hid hR2'
    have HR3 := Lib.hid hR3'
    have HR4 := Lib.hid hR
    clear hb4 hb4' hb5 hF hG hR2 hr3 hw3 hR2' hR3' hR
    go_wp2_with fail
    refine (same_is _ _ _ _ _ _ out out _ _ true _ HR2.out HR3.out HM.out HM.out (by omega) (by simp)).mono ?_
    rintro e w5 ⟨rfl, q, rfl⟩
    rcases HE.out with ⟨rfl, rfl, hall, hout⟩ | ⟨rfl, hout, _⟩
    · have hby : Bytes out := by rw [hout]; exact encAll_bytes l
      have hD : Decoded out l 0 0 := .inl ⟨rfl, rfl, hall, hout.symm⟩
      have HBY := Lib.hid hby
      have HD := Lib.hid hD
      clear hby hD hout hall
      go_wp2_with fail
      refine (decode_is A2 out l m cap2 n 0 0 _ HM.out (by exact (show Rd (w4.drewN q) w4.heap.size .u8 A2 out from (HR2.out.more (by omega)).drewN)) HBY.out (by omega) hcap2 HD.out HL.out).mono ?_
      rintro e w6 ⟨A6, cap6, rfl, hcap6, hr6, hb6⟩
      have hb6' : Below w4.heap.size w4 w6 := ⟨hb6.os, hb6.tape, hb6.output, hb6.size, hb6.block⟩
      have hw6 : Below w.heap.size w w6 := hw4.trans (hb6'.mono hw4.size)
      have hz6 := hw6.size
      have hRl : Rd (w6.alloc (.cells #[.int .i64 0, .int .i64 0] 27)) w6.heap.size .i32 A l := ((HR.out.below hw6).more hz6).alloc (Nat.le_refl _) _
      have hRx : Rd (w6.alloc (.cells #[.int .i64 0, .int .i64 0] 27)) w6.heap.size .i32 A6 l := hr6.alloc (Nat.le_refl _) _
      have HRL := Lib.hid hRl
      have HRX := Lib.hid hRx
      clear hr6 hb6 hb6' hRl hRx
      go_wp2_with fail
      refine (runes_is _ _ _ _ _ _ l l _ _ true _ HRX.out HRL.out HL.out HL.out (by omega) (by simp)).mono ?_
      rintro e w7 ⟨rfl, q2, rfl⟩
      have hw7 : Below w.heap.size w ((w6.alloc (.cells #[.int .i64 0, .int .i64 0] 27)).drewN q2) := by
        have h1 := hw6.alloc hz6 (.cells #[.int .i64 0, .int .i64 0] 27)
        exact ⟨h1.os, h1.tape, h1.output, h1.size, h1.block⟩
      clear hw4 hw6
      go_wp2
      go_ret
      exact ⟨rfl, hw7⟩
    · obtain rfl : m = 0 := by rw [← HM.out, hout]; rfl
      have hw5 : Below w.heap.size w (w4.drewN q) := ⟨hw4.os, hw4.tape, hw4.output, hw4.size, hw4.block⟩
      clear hout hw4
      go_wp2
      go_ret
      exact ⟨rfl, hw5⟩
end Go.Proofs.Ytambempcicakgaa.U
