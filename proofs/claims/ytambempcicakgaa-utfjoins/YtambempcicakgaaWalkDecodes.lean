/- UtfDecodes answers true at every list of bytes; nothing that was there is changed. -/
import Derived.Test.YtambempcicakgaaRefDec
namespace Go.Proofs.Ytambempcicakgaa.U
open Go.RowKit

theorem bytes_of {l : List Int} (h : ∀ x ∈ l, (Lit.int .u8 x).wf = true) : Bytes l := fun x hx => by
  have := bounds_u8 (h x hx)
  omega

def DecIs' (w0 : World) (l : List Int) (e : Ending) (w : World) : Prop :=
  ∃ A cap n at_, ∃ out : List Int, ∃ E, e = .returned (.tuple #[.slice A n cap, .agg #[.int .i64 E, .int .i64 (at_ : Nat)]]) ∧ n ≤ cap ∧ out.length = n ∧ n ≤ l.length ∧ Decoded l out E at_ ∧ Rd w w.heap.size .i32 A out ∧ Below w0.heap.size w0 w

theorem decIs_of {w0 w : World} {l : List Int} {e : Ending} (h : Dec2 w0 l e w) : DecIs' w0 l e w := by
  obtain ⟨v, out, E, at_, rfl, hd, hown, hbel⟩ := h
  obtain ⟨A, cap, rfl, hcap, hr⟩ := own_rd (k := .i32) hown
  exact ⟨A, cap, _, at_, out, E, rfl, hcap, rfl, (decoded_len hd).1, hd, hr, hbel⟩

theorem rdecode_is (A : Option Addr) (l out : List Int) (n c m at_ : Nat) (E : Int) (w : World) (hln : l.length = n) (h : Rd w w.heap.size .u8 A l) (hby : Bytes l) (hn : n ≤ 65536) (hcl : n ≤ c)
    (hD : Decoded l out E at_) (hm : out.length = m) : Calls Try.prog 12 #[.slice A n c] w (DecIs w out m E at_) := by
  refine (rdecode_any A l n c w hln h hby hn hcl).mono ?_
  rintro e w' ⟨v, out', E', n', rfl, hd, hown, hbel⟩
  obtain ⟨rfl, rfl, rfl⟩ := decoded_one hd hD
  obtain ⟨A', cap, rfl, hcap, hr⟩ := own_rd (k := .i32) hown
  subst hm
  exact ⟨A', cap, rfl, hcap, hr, hbel⟩

set_option maxHeartbeats 1000000 in
set_option maxRecDepth 100000 in
theorem walk_decodes (A : Option Addr) (n c : Nat) (l : List Int) (w : World) (h : Came .u8 w A n c l) :
    Calls Try.prog 3 #[.slice A n c] w fun e w' => e = .returned (.bool true) ∧ Below w.heap.size w w' := by
  obtain ⟨i0, hi0, hz0, hz1, hz2⟩ := info_parts info5
  obtain ⟨hl, hc, hrd, hnil, hwf⟩ := h
  have HL := Lib.hid hl
  have HR := Lib.hid hrd
  have HN := Lib.hid hnil
  have HB := Lib.hid (bytes_of hwf)
  clear hl hrd hnil hwf
  by_cases hbig : 3000 < n
  · go_enter Try.func3, Try.ntmps3
    go_wp2_with (go_at_call 10; (with_reducible refine (answers_any _).mono ?_); rintro e w4 ⟨rfl, hb4⟩)
    go_ret
    exact ⟨rfl, hb4⟩
  · have hown0 := own_empty w w.heap.size 5 (Nat.le_refl _)
    go_enter Try.func3, Try.ntmps3
    go_wp2_with (at_builtin; refine wpList_append_rd rfl (.tmp 12) (.tmp 13) 22 rfl w.heap.size 5 i0 (.int .u8 0) 1 Try.underlying22 hi0 hz0 hz1 hz2 rfl _ 0 [] rfl hown0 w.heap.size .u8 A n c l rfl (HR.out.alloc (Nat.le_refl _) _) HL.out HN.out (by simp only [maxLen]; omega) (by omega) (by simp) ?_; intro v1 w1 hown1 hgrow1)
    have hw1 : Below w.heap.size w w1 := below_of_grown hgrow1 fun k hk => (hown0.lt k hk).1
    have hown1' : w1.ownsRow w.heap.size 5 1 v1 l.length (l.map (Value.int .u8)) := by rw [HL.out]; simpa using hown1
    obtain ⟨A1, cap1, hv1, hcap1, hr1⟩ := own_rd hown1'
    rw [HL.out] at hv1 hcap1
    subst hv1
    clear hown1 hgrow1 hown0 hown1'
    refine (decode_any A1 l n cap1 w1 HL.out hr1 HB.out (by omega) hcap1).mono ?_
    intro e w2 hh
    obtain ⟨A2, cap2, m, at_, out, E, rfl, hcap2, hm, hml, hD, hr2, hb2⟩ := decIs_of hh
    clear hh
    rw [HL.out] at hml
    have HM := Lib.hid hm
    have HD := Lib.hid hD
    have hw2 : Below w.heap.size w w2 := hw1.trans (hb2.mono hw1.size)
    have hz2' := hw2.size
    clear hr1 hb2 hw1 hm hD
    go_wp2_with fail
    refine (rdecode_is A l out n c m at_ E _ HL.out (by exact ((HR.out.below hw2).more hz2').alloc (Nat.le_refl _) _ |>.more (by simp)) HB.out (by omega) hc HD.out HM.out).mono ?_
    rintro e w3 ⟨A3, cap3, rfl, hcap3, hr3, hb3⟩
    have hb3' : Below (w2.heap.size + 1) (w2.alloc (.cells #[.int .i64 E, .int .i64 at_] 27)) w3 := hb3.mono (by simp)
    have hw3 : Below w.heap.size w w3 := (hw2.alloc hz2' _).trans (hb3'.mono (by omega))
    have hz3 : w2.heap.size + 1 ≤ w3.heap.size := by have := hb3'.size; simpa using this
    have hR2 : Rd w3 w2.heap.size .i32 A2 out := (hr2.alloc (Nat.le_refl _) _).below (hb3'.mono (by omega))
    have hF := two_cells hb3'
    clear hb3 hb3' hr2 hw2
    go_wp2_with fail
    refine (answers_any _).mono ?_
    rintro e w4 ⟨rfl, hb4⟩
    have hb4' : Below (w3.heap.size + 1) (w3.alloc (.cells #[.int .i64 E, .int .i64 at_] 27)) w4 := hb4.mono (by simp)
    have hb5 : Below w3.heap.size w3 w4 := ((Below.refl _ _).alloc (Nat.le_refl _) _).trans (hb4'.mono (by omega))
    have hG := two_cells hb4'
    have hw4 : Below w.heap.size w w4 := hw3.trans (hb5.mono hw3.size)
    have hf0 : w4.cell? ⟨w2.heap.size, 0, none⟩ = some (.int .i64 E) := by rw [hb5.cell (p := ⟨w2.heap.size, 0, none⟩) (by simp; omega)]; exact hF.1
    have hf1 : w4.cell? ⟨w2.heap.size, 1, none⟩ = some (.int .i64 at_) := by rw [hb5.cell (p := ⟨w2.heap.size, 1, none⟩) (by simp; omega)]; exact hF.2
    have hg0 := hG.1
    have hg1 := hG.2
    have HR2 := Lib.hid (show Rd w4 w3.heap.size .i32 A2 out from (hR2.more (by omega)).below hb5)
    have HR3 := Lib.hid (show Rd w4 w3.heap.size .i32 A3 out from hr3.below hb5)
    clear hb4 hb4' hb5 hF hG hR2 hr3 hw3
    go_wp2_with fail
    refine (runes_is _ _ _ _ _ _ out out _ _ true _ HR2.out HR3.out HM.out HM.out (by omega) (by simp)).mono ?_
    rintro e w5 ⟨rfl, q, rfl⟩
    have hw5 : Below w.heap.size w (w4.drewN q) := ⟨hw4.os, hw4.tape, hw4.output, hw4.size, hw4.block⟩
    clear hw4
    go_wp2
    go_ret
    exact ⟨rfl, hw5⟩
end Go.Proofs.Ytambempcicakgaa.U
