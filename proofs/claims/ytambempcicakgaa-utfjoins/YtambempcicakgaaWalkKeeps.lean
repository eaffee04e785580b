/- UtfKeeps answers true at every list of bytes; nothing that was there is changed. -/
import Derived.Test.YtambempcicakgaaWalkDecodes
namespace Go.Proofs.Ytambempcicakgaa.U
open Go.RowKit

theorem Rd.grown {w w' : World} {B : Nat} {k : IntKind} {A : Option Addr} {l : List Int} {row : Option Nat} (h : Rd w B k A l) (hg : w.grownBy w' row) (hB : B ≤ w.heap.size) (hr : ∀ g, row = some g → B ≤ g) : Rd w' B k A l := fun i x hx => by
  obtain ⟨g, off, e, hlt, hc⟩ := h i x hx
  refine ⟨g, off, e, hlt, (World.cell?_of_block (hg.block g (by omega) fun e => ?_)).trans hc⟩
  have := hr g e.symm
  omega

/-- What the loop keeps that writes over what came out: it is still the call's own, and nothing else has changed. -/
def KeepRel (base : Nat) (W : World) (v : Value) (m : Nat) (i : Value) (w : World) : Prop :=
  ∃ k xs, i = .int .i64 (k : Nat) ∧ k ≤ m ∧ w.ownsRow base 21 1 v m xs ∧ W.grownBy w v.ownBlock

theorem decoded_all {l out : List Int} {E : Int} {n : Nat} (h : Decoded l out E n) : AllSc out := by
  rcases h with ⟨_, _, h, _⟩ | ⟨_, rfl, _⟩
  · exact h
  · simp [AllSc]

def EncOwn (w0 : World) (out : List Int) (n : Nat) (e : Ending) (w : World) : Prop :=
  ∃ A cap, e = .returned (.tuple #[.slice A n cap, .agg #[.int .i64 0, .int .i64 0]]) ∧ w.ownsRow w0.heap.size 5 1 (.slice A n cap) n (cs8 out) ∧ Below w0.heap.size w0 w
theorem encode_own (A : Option Addr) (l : List Int) (n c m : Nat) {out : List Int} (w : World) (hl : l.length = n) (h : Rd w w.heap.size .i32 A l) (hn : n ≤ 10000) (hE : Encoded l out 0 0) (hm : out.length = m) :
    Calls Try.prog 14 #[.slice A n c] w (EncOwn w out m) := by
  subst hl hm
  refine (encode_any A l c w h hn).mono ?_
  rintro e w' ⟨v, out', E', n', rfl, hd, hown, hbel⟩
  obtain ⟨rfl, rfl, rfl⟩ := encoded_one hd hE
  obtain ⟨A', cap, rfl, _, _⟩ := own_rd (k := .u8) hown
  exact ⟨A', cap, rfl, hown, hbel⟩

set_option maxHeartbeats 1000000 in
set_option maxRecDepth 100000 in
theorem walk_keeps (A : Option Addr) (n c : Nat) (l : List Int) (w : World) (h : Came .u8 w A n c l) :
    Calls Try.prog 8 #[.slice A n c] w fun e w' => e = .returned (.bool true) ∧ Below w.heap.size w w' := by
  obtain ⟨i0, hi0, hz0, hz1, hz2⟩ := info_parts info5
  obtain ⟨hl, hc, hrd, hnil, hwf⟩ := h
  have HL := Lib.hid hl
  have HR := Lib.hid hrd
  have HN := Lib.hid hnil
  have HB := Lib.hid (bytes_of hwf)
  clear hl hrd hnil hwf
  by_cases hbig : 1000 < n
  · go_enter Try.func8, Try.ntmps8
    go_wp2_with (go_at_call 10; (with_reducible refine (answers_any _).mono ?_); rintro e w4 ⟨rfl, hb4⟩)
    go_ret
    exact ⟨rfl, hb4⟩
  · have hown0 := own_empty w w.heap.size 5 (Nat.le_refl _)
    go_enter Try.func8, Try.ntmps8
    go_wp2_with (at_builtin; refine wpList_append_rd rfl (.tmp 15) (.tmp 16) 22 rfl w.heap.size 5 i0 (.int .u8 0) 1 Try.underlying22 hi0 hz0 hz1 hz2 rfl _ 0 [] rfl hown0 w.heap.size .u8 A n c l rfl (HR.out.alloc (Nat.le_refl _) _) HL.out HN.out (by simp only [maxLen]; omega) (by omega) (by simp) ?_; intro v1 w1 hown1 hgrow1)
    have hw1 : Below w.heap.size w w1 := below_of_grown hgrow1 fun k hk => (hown0.lt k hk).1
    have hown1' : w1.ownsRow w.heap.size 5 1 v1 l.length (l.map (Value.int .u8)) := by rw [HL.out]; simpa using hown1
    obtain ⟨A1, cap1, hv1, hcap1, hr1⟩ := own_rd hown1'
    rw [HL.out] at hv1 hcap1
    subst hv1
    clear hown1 hgrow1 hown0 hown1'
    refine (decode_any A1 l n cap1 w1 HL.out hr1 HB.out (by omega) hcap1).mono ?_
    rintro e w2 ⟨v2, out, E, at_, rfl, hD, hown2, hb2⟩
    obtain ⟨A2, cap2, rfl, hcap2, hr2⟩ := own_rd (k := .i32) hown2
    have hall := decoded_all hD
    have hml := (decoded_len hD).1
    rw [HL.out] at hml
    obtain ⟨m, hm⟩ : ∃ m, out.length = m := ⟨_, rfl⟩
    rw [hm] at hown2 hcap2 hml ⊢
    have HM := Lib.hid hm
    have HD := Lib.hid hD
    have hw2 : Below w.heap.size w w2 := hw1.trans (hb2.mono hw1.size)
    have hz12 := hb2.size
    have HE := Lib.hid (show Encoded out (encAll out) 0 0 from .inl ⟨rfl, rfl, hall, rfl⟩)
    have HX := Lib.hid (show Rd w2 w1.heap.size .u8 A1 l from hr1.below hb2)
    clear hr1 hb2 hm hD hall
    go_wp2_with fail
    obtain ⟨mc, hmc⟩ : ∃ mc, (encAll out).length = mc := ⟨_, rfl⟩
    have HMC := Lib.hid hmc
    clear hmc
    refine (encode_own A2 out m cap2 mc _ HM.out (by exact (hr2.alloc (Nat.le_refl _) _).more (by simp)) (by omega) HE.out HMC.out).mono ?_
    rintro e w3 ⟨A3, cap3, rfl, hown3, hb3⟩
    have hb3' : Below (w2.heap.size + 1) (w2.alloc (.cells #[.int .i64 E, .int .i64 at_] 27)) w3 := hb3.mono (by simp)
    have hw3 : Below w.heap.size w w3 := (hw2.alloc hw2.size _).trans (hb3'.mono (by have := hw2.size; omega))
    have hz3 : w2.heap.size + 1 ≤ w3.heap.size := by have := hb3'.size; simpa using this
    have hF := two_cells hb3'
    have hb23 : Below w2.heap.size w2 w3 := ((Below.refl _ _).alloc (Nat.le_refl _) _).trans (hb3'.mono (by omega))
    have hownr := (own_keep hown2 hb23).alloc (.cells #[.int .i64 0, .int .i64 0] 27)
    have HO2 := Lib.hid hown2
    have HO3 := Lib.hid hown3
    have hsz : (w2.alloc (.cells #[.int .i64 E, .int .i64 at_] 27)).heap.size = w2.heap.size + 1 := by simp
    rw [hsz] at hown3
    have HO3' := Lib.hid hown3
    have HX3 := Lib.hid (show Rd w3 w1.heap.size .u8 A1 l from HX.out.below (hb23.mono hz12))
    have hz01 := hw1.size
    have HZ := Lib.hid hz01
    clear hb3 hb3' hr2 hw2 hown2 hown3 hw1 hsz
    go_wp2
    go_loopw [8] (fun i wr => KeepRel w1.heap.size (w3.alloc (.cells #[.int .i64 0, .int .i64 0] 27)) (.slice A2 m cap2) m i wr) (fun i _ => m - (intOf i).toNat)
    case atStart => exact ⟨0, _, rfl, Nat.zero_le _, hownr, World.grownBy.refl _ _⟩
    case round =>
      obtain ⟨k, xs, rfl, hk, hown, hgrow⟩ := hrel
      by_cases hlt : k < m
      · obtain ⟨g, cap', hv, hbg, hglt⟩ := hown.form (by omega)
        injection hv with hA _ hcap
        subst hA hcap
        have hcell := hown.cellAt k (by omega)
        obtain ⟨u, hu⟩ : ∃ u, xs[k]? = some u := ⟨xs[k]'(by rw [hown.1]; omega), by simp⟩
        rw [hu] at hcell
        have hfz := hown.frozenAt k
        have hst := hown.stored k (.int .i32 120)
        have hnext : (w3.alloc (.cells #[.int .i64 0, .int .i64 0] 27)).grownBy (wr.setCell ⟨g, k, none⟩ (.int .i32 120)) (Value.slice (some ⟨g, 0, none⟩) m cap2).ownBlock := hgrow.trans hst.2
        have HST := Lib.hid hst
        have HNX := Lib.hid hnext
        have hi1 : (0 : Int) ≤ (k : Int) := by omega
        have hi2 : (k : Int) < (m : Int) := by omega
        clear hst hnext hown hgrow hownr hu hF
        go_wp2
        go_roundw
        case rel => exact ⟨k + 1, _, by go_num, by omega, HST.out.1, HNX.out⟩
        case measure => simp [intOf]; omega
      · have hrow : ∀ g, (Value.slice A2 m cap2).ownBlock = some g → w1.heap.size ≤ g ∧ g < w2.heap.size := HO2.out.lt
        have hrw : ∀ b, w2.heap.size ≤ b → some b ≠ (Value.slice A2 m cap2).ownBlock := fun b hb e => by have := (hrow b e.symm).2; omega
        have hr5 : Rd wr w1.heap.size .u8 A1 l := (HX3.out.alloc (by omega) _).grown hgrow (by simp; omega) fun g e => (hrow g e).1
        have hbl : Below w.heap.size w wr := (hw3.alloc hw3.size _).grown hgrow (by have := hw3.size; simp; omega) fun g e => by have := (hrow g e).1; have := HZ.out; omega
        have hf0 : wr.cell? ⟨w2.heap.size, 0, none⟩ = some (.int .i64 E) := by
          rw [hgrow.cell_far ⟨w2.heap.size, 0, none⟩ (by simp; omega) (hrw _ (Nat.le_refl _)), World.cell?_alloc_lt _ _ _ (by simp; omega)]; exact hF.1
        have hg0 : wr.cell? ⟨w3.heap.size, 0, none⟩ = some (.int .i64 0) := by
          rw [hgrow.cell_far ⟨w3.heap.size, 0, none⟩ (by simp) (hrw w3.heap.size (by omega))]; simp
        have hzr : w3.heap.size + 1 ≤ wr.heap.size := by have := hgrow.size; simpa using this
        have hown3 : wr.ownsRow (w2.heap.size + 1) 5 1 (.slice A3 mc cap3) mc (cs8 (encAll out)) := (HO3'.out.alloc _).kept hgrow (by
          cases hv : (Value.slice A3 mc cap3).ownBlock with
          | none => exact .inl rfl
          | some b => exact .inr (hrw b (by have := (HO3'.out.lt b hv).1; omega)))
        have hr6 : Rd wr wr.heap.size .u8 A3 (encAll out) := by
          have h1 : wr.ownsRow (w2.heap.size + 1) 5 1 (.slice A3 mc cap3) (encAll out).length ((encAll out).map (Value.int .u8)) := by rw [HMC.out]; exact hown3
          obtain ⟨A', cap', e, _, hh⟩ := own_rd h1
          injection e with e1 _ _
          rw [e1]; exact hh
        have HR5 := Lib.hid hr5
        have HR6 := Lib.hid hr6
        clear hrow hrw hr5 hr6 hown3 hgrow hown hw3 hF hownr
        go_wp2_with fail
        refine (decode_is A1 l out n cap1 m at_ E wr HL.out (by exact HR5.out.more (by omega)) HB.out (by omega) hcap1 HD.out HM.out).mono ?_
        rintro e w5 ⟨A5, cap5, rfl, hcap5, hr7, hb5⟩
        have hzz5 := hb5.size
        have hbl5 : Below w.heap.size w w5 := hbl.trans (hb5.mono hbl.size)
        clear hr7
        go_wp2_with fail
        refine (answers_any _).mono ?_
        rintro e w6 ⟨rfl, hb6⟩
        have hb56 : Below w5.heap.size w5 w6 := ((Below.refl _ _).alloc (Nat.le_refl _) _).trans (hb6.mono (by simp))
        have hbr6 : Below wr.heap.size wr w6 := hb5.trans (hb56.mono hzz5)
        have hbl6 : Below w.heap.size w w6 := hbl.trans (hbr6.mono hbl.size)
        have hf6 : w6.cell? ⟨w2.heap.size, 0, none⟩ = some (.int .i64 E) := (hbr6.cell (p := ⟨w2.heap.size, 0, none⟩) (by simp; omega)).trans hf0
        have hg6 : w6.cell? ⟨w3.heap.size, 0, none⟩ = some (.int .i64 0) := (hbr6.cell (p := ⟨w3.heap.size, 0, none⟩) (by simp; omega)).trans hg0
        have HRa := Lib.hid (show Rd w6 w1.heap.size .u8 A1 l from HR5.out.below (hbr6.mono (by omega)))
        have HRb := Lib.hid (show Rd w6 w.heap.size .u8 A l from HR.out.below hbl6)
        have HRc := Lib.hid (show Rd w6 wr.heap.size .u8 A3 (encAll out) from HR6.out.below hbr6)
        clear hb6 hb56 hbr6 hbl5 hb5 hbl hf0 hg0
        go_wp2_with fail
        refine (same_is _ _ _ _ _ _ l l _ _ true _ HRa.out HRb.out HL.out HL.out (by omega) (by simp)).mono ?_
        rintro e w7 ⟨rfl, q, rfl⟩
        rcases HD.out with ⟨rfl, _, _, henc⟩ | ⟨rfl, hout, _⟩
        · have HRc' := Lib.hid (show Rd w6 wr.heap.size .u8 A3 l by have := HRc.out; rwa [henc] at this)
          obtain rfl : mc = n := by rw [← HMC.out, henc, HL.out]
          clear henc
          go_wp2_with fail
          refine (same_is _ _ _ _ _ _ l l _ _ true _ (by exact (HRc'.out.drewN (n := q))) (by exact (HRb.out.drewN (n := q))) HL.out HL.out (by omega) (by simp)).mono ?_
          rintro e w8 ⟨rfl, q2, rfl⟩
          have hfin : Below w.heap.size w ((w6.drewN q).drewN q2) := ⟨hbl6.os, hbl6.tape, hbl6.output, hbl6.size, hbl6.block⟩
          clear hbl6
          go_wp2
          go_ret
          exact ⟨rfl, ⟨hfin.os, hfin.tape, hfin.output, hfin.size, hfin.block⟩⟩
        · obtain rfl : m = 0 := by rw [← HM.out, hout]; rfl
          have hfin : Below w.heap.size w (w6.drewN q) := ⟨hbl6.os, hbl6.tape, hbl6.output, hbl6.size, hbl6.block⟩
          clear hbl6 hout
          go_wp2
          go_ret
          exact ⟨rfl, hfin⟩
end Go.Proofs.Ytambempcicakgaa.U
