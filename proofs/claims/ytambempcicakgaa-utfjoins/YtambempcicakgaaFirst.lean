/- What utf.first answers: the first scalar of bytes, or none. There is a byte; at most 65536 of them. -/
import Derived.Test.YtambempcicakgaaEnc
import Derived.Test.YtambempcicakgaaFirstMath
import Derived.Deep.QuietTactic
import Derived.BigQuiet
namespace Go.Proofs.Ytambempcicakgaa.U
open Go.RowKit

def Fst (w : World) (l : List Int) (e : Ending) (w' : World) : Prop := ∃ (r : Int) (n m : Nat), e = .returned (.tuple #[.int .i32 r, .int .i64 n]) ∧ FirstOf l r n ∧ w' = w.drewN m

theorem quietly {P : Program} {f : FuncId} {args : Array Value} {w : World} {n : Nat} {v : Value} (h : Calls P f args (w.drewN n) fun e w' => e = .returned v ∧ w.drewN n = w') :
    Calls P f args (w.drewN n) fun e w' => e = .returned v ∧ ∃ m, w' = w.drewN m := h.mono fun _ _ hh => ⟨hh.1, n, hh.2.symm⟩

theorem getD_of {l : List Int} {k : Nat} {x : Int} (h : l[k]? = some x) : l.getD k 0 = x := by simp [List.getD, h]

set_option maxHeartbeats 400000 in
theorem first_bad (g off c : Nat) (l : List Int) (b0 : Int) (w : World) (h0 : l[0]? = some b0) (hb : 0 ≤ b0 ∧ b0 < 256) (hl : 0 < l.length)
    (hc0 : w.cell? ⟨g, off, none⟩ = some (.int .u8 b0)) (ha : an b0 = 0 ∨ l.length < an b0) :
    Calls Try.prog 21 #[.slice (some ⟨g, off, none⟩) l.length c] w (Fst w l) := by
  have hno : NoFirst l := by
    have e := getD_of h0
    rcases ha with ha | ha
    · exact no_an0 (by rw [e]; exact ha)
    · exact no_short (by rw [e]; exact ha)
  have HN := Lib.hid hno
  have H0 := Lib.hid h0
  clear hno h0
  obtain ⟨n, hn'⟩ : ∃ n, an b0 = n := ⟨_, rfl⟩
  have hi : (0 : Int) < (l.length : Int) := by omega
  rw [hn'] at ha
  rcases ha with ha | ha
  · have hz : ((n : Int) == 0) = true := by simp [ha]
    go_enter Try.func21, Try.ntmps21
    go_wp2_with (go_at_call 25; (with_reducible refine (announced_is _ n _ hb.1 hb.2 (by omega)).mono ?_); rintro e w' ⟨rfl, rfl⟩)
    go_ret2
    exact ⟨0, 0, 0, rfl, .inr ⟨rfl, rfl, HN.out⟩, rfl⟩
  · have hz : ((n : Int) == 0) = false := by simp; omega
    have hz2 : decide ((l.length : Int) < (n : Int)) = true := by simp; omega
    go_enter Try.func21, Try.ntmps21
    go_wp2_with (go_at_call 25; (with_reducible refine (announced_is _ n _ hb.1 hb.2 (by omega)).mono ?_); rintro e w' ⟨rfl, rfl⟩)
    go_ret2
    exact ⟨0, 0, 0, rfl, .inr ⟨rfl, rfl, HN.out⟩, rfl⟩

/-- What the loop of 'first' keeps: the number that the bytes so far tell. -/
def FRel (l : List Int) (N : Nat) (r i : Value) : Prop :=
  ∃ s x : Int, i = .int .i64 s ∧ r = .int .i32 x ∧ 0 ≤ x ∧
    ((s = 0 ∧ 1 ≤ N ∧ (x < 256 ∧ (N = 1 ∨ x < 32)) ∧ x = facc l N 0 ∧ Conts l 0) ∨ (s = 1 ∧ 2 ≤ N ∧ x < 2048 ∧ x = facc l N 1 ∧ Conts l 1) ∨
     (s = 2 ∧ 3 ≤ N ∧ x < 131072 ∧ x = facc l N 2 ∧ Conts l 2) ∨ (s = 3 ∧ 4 ≤ N ∧ x < 8388608 ∧ x = facc l N 3 ∧ Conts l 3))

theorem conts0 (l : List Int) : Conts l 0 := fun j h1 h2 => by omega
theorem facc_succ {l : List Int} {N k : Nat} {x c : Int} (hx : x = facc l N k) (hc : l[k + 1]? = some c) (h1 : 128 ≤ c) (h2 : c < 192) : x * 64 + c % 64 = facc l N (k + 1) := by
  have e := getD_of hc
  show _ = facc l N k * 64 + (l.getD (k + 1) 0 - 128)
  rw [e, ← hx]; omega
theorem wrap32_small {x : Int} (h0 : 0 ≤ x) (h1 : x < 256) : wrap32 x = x := by
  simp [wrap32]; omega
theorem first_good {l : List Int} {N : Nat} {x b0 : Int} (h0 : l[0]? = some b0) (hb : 0 ≤ b0) (ha : (an b0 : Int) = N) (h1 : 1 ≤ N) (hlen : N ≤ l.length) (hc : Conts l (N - 1))
    (hx : x = facc l N (N - 1)) (hl : ln x = N) : FirstOf l x N := by
  subst hx
  have e := getD_of h0
  exact .inl ⟨sc_of_ln (by omega), hl.symm, _, first_mk (by rw [e]; exact hb) (by rw [e]; omega) h1 hlen hc hl⟩
theorem first_none {l : List Int} {N : Nat} {x b0 : Int} (h0 : l[0]? = some b0) (ha : (an b0 : Int) = N) (hx : x = facc l N (N - 1)) (hl : ln x ≠ N) : FirstOf l 0 0 := by
  subst hx
  have e : an (l.getD 0 0) = N := by rw [getD_of h0]; omega
  exact .inr ⟨rfl, rfl, no_ln (by rw [e]; exact hl)⟩
theorem first_off {l : List Int} {N j : Nat} {c b0 : Int} (h0 : l[0]? = some b0) (ha : (an b0 : Int) = N) (h1 : 1 ≤ j) (h2 : j < N) (hc : l[j]? = some c) (h : ¬ (128 ≤ c ∧ c < 192)) : FirstOf l 0 0 := by
  have e : an (l.getD 0 0) = N := by rw [getD_of h0]; omega
  exact .inr ⟨rfl, rfl, no_cont h1 (by omega) (by rw [getD_of hc]; exact h)⟩
theorem six_bits {x c : Int} (h0 : 0 ≤ x) (h1 : x < 131072) : bits .or .i32 (x * 64) (c % 64) = x * 64 + c % 64 := six_more h0 (by omega) (by omega) (by omega)

set_option maxHeartbeats 1000000 in
theorem first_1 (g off c : Nat) (l : List Int) (b0 : Int) (w : World) (h0 : l[0]? = some b0) (hb : 0 ≤ b0 ∧ b0 < 256) (hrg : ∀ x ∈ l, 0 ≤ x ∧ x < 256) (hcl : l.length ≤ c)
    (hcell : ∀ i x, l[i]? = some x → w.cell? ⟨g, off + i, none⟩ = some (.int .u8 x)) (ha : an b0 = 1) (hlen : 1 ≤ l.length) :
    Calls Try.prog 21 #[.slice (some ⟨g, off, none⟩) l.length c] w (Fst w l) := by
  have hc0 : w.cell? ⟨g, off, none⟩ = some (.int .u8 b0) := hcell 0 b0 h0
  have H0 := Lib.hid h0
  have HC := Lib.hid hcell
  have HR := Lib.hid hrg
  have HA := Lib.hid (show (an b0 : Int) = 1 by omega)
  have hi : (0 : Int) < (l.length : Int) := by omega
  have hi2 : (1 : Int) ≤ (l.length : Int) := by omega
  have hi3 : (1 : Int) ≤ (c : Int) := by omega
  have hi4 : decide ((l.length : Int) < 1) = false := by simp; omega
  have hlo : bits .andNot .u8 b0 0 = b0 - 0 ∧ 0 ≤ b0 - 0 ∧ b0 - 0 < 256 := by
    rcases an_cases b0 with h | h | h | h | h <;> first | (exfalso; omega) | skip
    rw [less0 hb.1 hb.2]; omega
  have HLO := Lib.hid hlo
  clear h0 hcell ha hrg hlo
  go_enter Try.func21, Try.ntmps21
  go_wp2_with (go_at_call 25; (with_reducible refine (announced_is _ 1 _ hb.1 hb.2 HA.out).mono ?_); rintro e w' ⟨rfl, rfl⟩)
  go_quiet ((go_at_call 26; exact quietly (head_is _ 0 _ hd1)))
  go_wp2
  all_goals
    generalize hx0 : wrap32 (bits BinOp.andNot IntKind.u8 b0 0) = x0
    generalize Value.int IntKind.u8 (bits BinOp.andNot IntKind.u8 b0 0) = q25
    have hx1 : x0 = facc l 1 0 := by
      have e : hd ((1 : Nat) : Int) = 0 := by decide
      rw [← hx0, HLO.out.1]
      show _ = l.getD 0 0 - hd ((1 : Nat) : Int)
      rw [getD_of H0.out, e]
      exact wrap32_small (by have := HLO.out; omega) (by have := HLO.out; omega)
    have hx2 : 0 ≤ x0 ∧ x0 < 256 := by
      rw [hx1]
      have e : hd ((1 : Nat) : Int) = 0 := by decide
      show 0 ≤ l.getD 0 0 - hd ((1 : Nat) : Int) ∧ l.getD 0 0 - hd ((1 : Nat) : Int) < 256
      rw [getD_of H0.out, e]
      have := HLO.out; omega
    have HX1 := Lib.hid hx1
    clear hx0 hx1
    go_loop [5, 31] (fun r i => FRel l 1 r i) (fun _ i => (1 - intOf i).toNat)
    case atStart => exact ⟨0, x0, rfl, rfl, hx2.1, .inl ⟨rfl, by omega, by omega, HX1.out, conts0 l⟩⟩
    case round =>
      obtain ⟨s, x, rfl, rfl, hx0, hcs⟩ := hrel
      rcases hcs with ⟨rfl, hN, hxl, hfx, hcx⟩ | ⟨rfl, hN, hxl, hfx, hcx⟩ | ⟨rfl, hN, hxl, hfx, hcx⟩ | ⟨rfl, hN, hxl, hfx, hcx⟩
      · have HFX := Lib.hid hfx
        clear hfx
        by_cases hln : ln x = 1
        · have HL := Lib.hid hln
          have HM := Lib.hid (show (ln x : Int) = 1 by omega)
          clear hln
          go_wp2_with (go_at_call 19; (with_reducible refine (len_is _ 1 _ HM.out).mono ?_); rintro e w' ⟨rfl, rfl⟩)
          go_ret2
          exact ⟨x, 1, nq, rfl, first_good (N := 1) H0.out hb.1 HA.out (by omega) hlen hcx HFX.out HL.out, rfl⟩
        · obtain ⟨m, hm⟩ : ∃ m : Int, (ln x : Int) = m := ⟨_, rfl⟩
          have hmz : (m != 1) = true := by simp; omega
          have HL := Lib.hid hln
          have HM := Lib.hid hm
          clear hln hm
          go_wp2_with (go_at_call 19; (with_reducible refine (len_is _ m _ HM.out).mono ?_); rintro e w' ⟨rfl, rfl⟩)
          go_ret2
          exact ⟨0, 0, nq, rfl, first_none (N := 1) H0.out HA.out HFX.out HL.out, rfl⟩
      · omega
      · omega
      · omega

set_option maxHeartbeats 1000000 in
theorem first_2 (g off c : Nat) (l : List Int) (b0 : Int) (w : World) (h0 : l[0]? = some b0) (hb : 0 ≤ b0 ∧ b0 < 256) (hrg : ∀ x ∈ l, 0 ≤ x ∧ x < 256) (hcl : l.length ≤ c)
    (hcell : ∀ i x, l[i]? = some x → w.cell? ⟨g, off + i, none⟩ = some (.int .u8 x)) (ha : an b0 = 2) (hlen : 2 ≤ l.length) :
    Calls Try.prog 21 #[.slice (some ⟨g, off, none⟩) l.length c] w (Fst w l) := by
  have hc0 : w.cell? ⟨g, off, none⟩ = some (.int .u8 b0) := hcell 0 b0 h0
  have H0 := Lib.hid h0
  have HC := Lib.hid hcell
  have HR := Lib.hid hrg
  have HA := Lib.hid (show (an b0 : Int) = 2 by omega)
  have hi : (0 : Int) < (l.length : Int) := by omega
  have hi2 : (2 : Int) ≤ (l.length : Int) := by omega
  have hi3 : (2 : Int) ≤ (c : Int) := by omega
  have hi4 : decide ((l.length : Int) < 2) = false := by simp; omega
  have hlo : bits .andNot .u8 b0 192 = b0 - 192 ∧ 0 ≤ b0 - 192 ∧ b0 - 192 < 32 := by
    rcases an_cases b0 with h | h | h | h | h <;> first | (exfalso; omega) | skip
    rw [less192 hb.1 hb.2]; omega
  have HLO := Lib.hid hlo
  clear h0 hcell ha hrg hlo
  go_enter Try.func21, Try.ntmps21
  go_wp2_with (go_at_call 25; (with_reducible refine (announced_is _ 2 _ hb.1 hb.2 HA.out).mono ?_); rintro e w' ⟨rfl, rfl⟩)
  go_quiet ((go_at_call 26; exact quietly (head_is _ 192 _ hd2)))
  go_wp2
  all_goals
    generalize hx0 : wrap32 (bits BinOp.andNot IntKind.u8 b0 192) = x0
    generalize Value.int IntKind.u8 (bits BinOp.andNot IntKind.u8 b0 192) = q25
    have hx1 : x0 = facc l 2 0 := by
      have e : hd ((2 : Nat) : Int) = 192 := by decide
      rw [← hx0, HLO.out.1]
      show _ = l.getD 0 0 - hd ((2 : Nat) : Int)
      rw [getD_of H0.out, e]
      exact wrap32_small (by have := HLO.out; omega) (by have := HLO.out; omega)
    have hx2 : 0 ≤ x0 ∧ x0 < 32 := by
      rw [hx1]
      have e : hd ((2 : Nat) : Int) = 192 := by decide
      show 0 ≤ l.getD 0 0 - hd ((2 : Nat) : Int) ∧ l.getD 0 0 - hd ((2 : Nat) : Int) < 32
      rw [getD_of H0.out, e]
      have := HLO.out; omega
    have HX1 := Lib.hid hx1
    clear hx0 hx1
    go_loop [5, 31] (fun r i => FRel l 2 r i) (fun _ i => (2 - intOf i).toNat)
    case atStart => exact ⟨0, x0, rfl, rfl, hx2.1, .inl ⟨rfl, by omega, by omega, HX1.out, conts0 l⟩⟩
    case round =>
      obtain ⟨s, x, rfl, rfl, hx0, hcs⟩ := hrel
      rcases hcs with ⟨rfl, hN, hxl, hfx, hcx⟩ | ⟨rfl, hN, hxl, hfx, hcx⟩ | ⟨rfl, hN, hxl, hfx, hcx⟩ | ⟨rfl, hN, hxl, hfx, hcx⟩
      · obtain ⟨c1, hc1⟩ : ∃ c1, l[1]? = some c1 := ⟨l[1]'(by omega), by simp⟩
        have hcc : w.cell? ⟨g, off + 1, none⟩ = some (.int .u8 c1) := HC.out 1 c1 hc1
        have hr := HR.out c1 (List.mem_of_getElem? hc1)
        have H1 := Lib.hid hc1
        have HFX := Lib.hid hfx
        clear hc1 hfx
        by_cases hct : 128 ≤ c1 ∧ c1 < 192
        · have ht : (c1 / 64 != 2) = false := by simp; omega
          have hsb : bits .or .i32 (x * 64) (c1 % 64) = x * 64 + c1 % 64 := six_bits hx0 (by omega)
          go_wp2
          go_round
          case rel => exact ⟨_, _, rfl, by first | rfl | (rw [hsb]), by omega, .inr (.inl ⟨rfl, by omega, by omega, facc_succ HFX.out H1.out hct.1 hct.2, hcx.snoc (by rw [getD_of H1.out]; exact hct)⟩)⟩
          case measure => simp [intOf]
        · have ht : (c1 / 64 != 2) = true := by simp; omega
          go_wp2
          go_ret2
          exact ⟨0, 0, nq, rfl, first_off (N := 2) (j := 1) H0.out HA.out (by omega) (by omega) H1.out hct, rfl⟩
      · have HFX := Lib.hid hfx
        clear hfx
        by_cases hln : ln x = 2
        · have HL := Lib.hid hln
          have HM := Lib.hid (show (ln x : Int) = 2 by omega)
          clear hln
          go_wp2_with (go_at_call 19; (with_reducible refine (len_is _ 2 _ HM.out).mono ?_); rintro e w' ⟨rfl, rfl⟩)
          go_ret2
          exact ⟨x, 2, nq, rfl, first_good (N := 2) H0.out hb.1 HA.out (by omega) hlen hcx HFX.out HL.out, rfl⟩
        · obtain ⟨m, hm⟩ : ∃ m : Int, (ln x : Int) = m := ⟨_, rfl⟩
          have hmz : (m != 2) = true := by simp; omega
          have HL := Lib.hid hln
          have HM := Lib.hid hm
          clear hln hm
          go_wp2_with (go_at_call 19; (with_reducible refine (len_is _ m _ HM.out).mono ?_); rintro e w' ⟨rfl, rfl⟩)
          go_ret2
          exact ⟨0, 0, nq, rfl, first_none (N := 2) H0.out HA.out HFX.out HL.out, rfl⟩
      · omega
      · omega

set_option maxHeartbeats 1000000 in
theorem first_3 (g off c : Nat) (l : List Int) (b0 : Int) (w : World) (h0 : l[0]? = some b0) (hb : 0 ≤ b0 ∧ b0 < 256) (hrg : ∀ x ∈ l, 0 ≤ x ∧ x < 256) (hcl : l.length ≤ c)
    (hcell : ∀ i x, l[i]? = some x → w.cell? ⟨g, off + i, none⟩ = some (.int .u8 x)) (ha : an b0 = 3) (hlen : 3 ≤ l.length) :
    Calls Try.prog 21 #[.slice (some ⟨g, off, none⟩) l.length c] w (Fst w l) := by
  have hc0 : w.cell? ⟨g, off, none⟩ = some (.int .u8 b0) := hcell 0 b0 h0
  have H0 := Lib.hid h0
  have HC := Lib.hid hcell
  have HR := Lib.hid hrg
  have HA := Lib.hid (show (an b0 : Int) = 3 by omega)
  have hi : (0 : Int) < (l.length : Int) := by omega
  have hi2 : (3 : Int) ≤ (l.length : Int) := by omega
  have hi3 : (3 : Int) ≤ (c : Int) := by omega
  have hi4 : decide ((l.length : Int) < 3) = false := by simp; omega
  have hlo : bits .andNot .u8 b0 224 = b0 - 224 ∧ 0 ≤ b0 - 224 ∧ b0 - 224 < 32 := by
    rcases an_cases b0 with h | h | h | h | h <;> first | (exfalso; omega) | skip
    rw [less224 hb.1 hb.2]; omega
  have HLO := Lib.hid hlo
  clear h0 hcell ha hrg hlo
  go_enter Try.func21, Try.ntmps21
  go_wp2_with (go_at_call 25; (with_reducible refine (announced_is _ 3 _ hb.1 hb.2 HA.out).mono ?_); rintro e w' ⟨rfl, rfl⟩)
  go_quiet ((go_at_call 26; exact quietly (head_is _ 224 _ hd3)))
  go_wp2
  all_goals
    generalize hx0 : wrap32 (bits BinOp.andNot IntKind.u8 b0 224) = x0
    generalize Value.int IntKind.u8 (bits BinOp.andNot IntKind.u8 b0 224) = q25
    have hx1 : x0 = facc l 3 0 := by
      have e : hd ((3 : Nat) : Int) = 224 := by decide
      rw [← hx0, HLO.out.1]
      show _ = l.getD 0 0 - hd ((3 : Nat) : Int)
      rw [getD_of H0.out, e]
      exact wrap32_small (by have := HLO.out; omega) (by have := HLO.out; omega)
    have hx2 : 0 ≤ x0 ∧ x0 < 32 := by
      rw [hx1]
      have e : hd ((3 : Nat) : Int) = 224 := by decide
      show 0 ≤ l.getD 0 0 - hd ((3 : Nat) : Int) ∧ l.getD 0 0 - hd ((3 : Nat) : Int) < 32
      rw [getD_of H0.out, e]
      have := HLO.out; omega
    have HX1 := Lib.hid hx1
    clear hx0 hx1
    go_loop [5, 31] (fun r i => FRel l 3 r i) (fun _ i => (3 - intOf i).toNat)
    case atStart => exact ⟨0, x0, rfl, rfl, hx2.1, .inl ⟨rfl, by omega, by omega, HX1.out, conts0 l⟩⟩
    case round =>
      obtain ⟨s, x, rfl, rfl, hx0, hcs⟩ := hrel
      rcases hcs with ⟨rfl, hN, hxl, hfx, hcx⟩ | ⟨rfl, hN, hxl, hfx, hcx⟩ | ⟨rfl, hN, hxl, hfx, hcx⟩ | ⟨rfl, hN, hxl, hfx, hcx⟩
      · obtain ⟨c1, hc1⟩ : ∃ c1, l[1]? = some c1 := ⟨l[1]'(by omega), by simp⟩
        have hcc : w.cell? ⟨g, off + 1, none⟩ = some (.int .u8 c1) := HC.out 1 c1 hc1
        have hr := HR.out c1 (List.mem_of_getElem? hc1)
        have H1 := Lib.hid hc1
        have HFX := Lib.hid hfx
        clear hc1 hfx
        by_cases hct : 128 ≤ c1 ∧ c1 < 192
        · have ht : (c1 / 64 != 2) = false := by simp; omega
          have hsb : bits .or .i32 (x * 64) (c1 % 64) = x * 64 + c1 % 64 := six_bits hx0 (by omega)
          go_wp2
          go_round
          case rel => exact ⟨_, _, rfl, by first | rfl | (rw [hsb]), by omega, .inr (.inl ⟨rfl, by omega, by omega, facc_succ HFX.out H1.out hct.1 hct.2, hcx.snoc (by rw [getD_of H1.out]; exact hct)⟩)⟩
          case measure => simp [intOf]
        · have ht : (c1 / 64 != 2) = true := by simp; omega
          go_wp2
          go_ret2
          exact ⟨0, 0, nq, rfl, first_off (N := 3) (j := 1) H0.out HA.out (by omega) (by omega) H1.out hct, rfl⟩
      · obtain ⟨c1, hc1⟩ : ∃ c1, l[2]? = some c1 := ⟨l[2]'(by omega), by simp⟩
        have hcc : w.cell? ⟨g, off + 2, none⟩ = some (.int .u8 c1) := HC.out 2 c1 hc1
        have hr := HR.out c1 (List.mem_of_getElem? hc1)
        have H1 := Lib.hid hc1
        have HFX := Lib.hid hfx
        clear hc1 hfx
        by_cases hct : 128 ≤ c1 ∧ c1 < 192
        · have ht : (c1 / 64 != 2) = false := by simp; omega
          have hsb : bits .or .i32 (x * 64) (c1 % 64) = x * 64 + c1 % 64 := six_bits hx0 (by omega)
          go_wp2
          go_round
          case rel => exact ⟨_, _, rfl, by first | rfl | (rw [hsb]), by omega, .inr (.inr (.inl ⟨rfl, by omega, by omega, facc_succ HFX.out H1.out hct.1 hct.2, hcx.snoc (by rw [getD_of H1.out]; exact hct)⟩))⟩
          case measure => simp [intOf]
        · have ht : (c1 / 64 != 2) = true := by simp; omega
          go_wp2
          go_ret2
          exact ⟨0, 0, nq, rfl, first_off (N := 3) (j := 2) H0.out HA.out (by omega) (by omega) H1.out hct, rfl⟩
      · have HFX := Lib.hid hfx
        clear hfx
        by_cases hln : ln x = 3
        · have HL := Lib.hid hln
          have HM := Lib.hid (show (ln x : Int) = 3 by omega)
          clear hln
          go_wp2_with (go_at_call 19; (with_reducible refine (len_is _ 3 _ HM.out).mono ?_); rintro e w' ⟨rfl, rfl⟩)
          go_ret2
          exact ⟨x, 3, nq, rfl, first_good (N := 3) H0.out hb.1 HA.out (by omega) hlen hcx HFX.out HL.out, rfl⟩
        · obtain ⟨m, hm⟩ : ∃ m : Int, (ln x : Int) = m := ⟨_, rfl⟩
          have hmz : (m != 3) = true := by simp; omega
          have HL := Lib.hid hln
          have HM := Lib.hid hm
          clear hln hm
          go_wp2_with (go_at_call 19; (with_reducible refine (len_is _ m _ HM.out).mono ?_); rintro e w' ⟨rfl, rfl⟩)
          go_ret2
          exact ⟨0, 0, nq, rfl, first_none (N := 3) H0.out HA.out HFX.out HL.out, rfl⟩
      · omega

set_option maxHeartbeats 1000000 in
theorem first_4 (g off c : Nat) (l : List Int) (b0 : Int) (w : World) (h0 : l[0]? = some b0) (hb : 0 ≤ b0 ∧ b0 < 256) (hrg : ∀ x ∈ l, 0 ≤ x ∧ x < 256) (hcl : l.length ≤ c)
    (hcell : ∀ i x, l[i]? = some x → w.cell? ⟨g, off + i, none⟩ = some (.int .u8 x)) (ha : an b0 = 4) (hlen : 4 ≤ l.length) :
    Calls Try.prog 21 #[.slice (some ⟨g, off, none⟩) l.length c] w (Fst w l) := by
  have hc0 : w.cell? ⟨g, off, none⟩ = some (.int .u8 b0) := hcell 0 b0 h0
  have H0 := Lib.hid h0
  have HC := Lib.hid hcell
  have HR := Lib.hid hrg
  have HA := Lib.hid (show (an b0 : Int) = 4 by omega)
  have hi : (0 : Int) < (l.length : Int) := by omega
  have hi2 : (4 : Int) ≤ (l.length : Int) := by omega
  have hi3 : (4 : Int) ≤ (c : Int) := by omega
  have hi4 : decide ((l.length : Int) < 4) = false := by simp; omega
  have hlo : bits .andNot .u8 b0 240 = b0 - 240 ∧ 0 ≤ b0 - 240 ∧ b0 - 240 < 32 := by
    rcases an_cases b0 with h | h | h | h | h <;> first | (exfalso; omega) | skip
    rw [less240 hb.1 hb.2]; omega
  have HLO := Lib.hid hlo
  clear h0 hcell ha hrg hlo
  go_enter Try.func21, Try.ntmps21
  go_wp2_with (go_at_call 25; (with_reducible refine (announced_is _ 4 _ hb.1 hb.2 HA.out).mono ?_); rintro e w' ⟨rfl, rfl⟩)
  go_quiet ((go_at_call 26; exact quietly (head_is _ 240 _ hd4)))
  go_wp2
  all_goals
    generalize hx0 : wrap32 (bits BinOp.andNot IntKind.u8 b0 240) = x0
    generalize Value.int IntKind.u8 (bits BinOp.andNot IntKind.u8 b0 240) = q25
    have hx1 : x0 = facc l 4 0 := by
      have e : hd ((4 : Nat) : Int) = 240 := by decide
      rw [← hx0, HLO.out.1]
      show _ = l.getD 0 0 - hd ((4 : Nat) : Int)
      rw [getD_of H0.out, e]
      exact wrap32_small (by have := HLO.out; omega) (by have := HLO.out; omega)
    have hx2 : 0 ≤ x0 ∧ x0 < 32 := by
      rw [hx1]
      have e : hd ((4 : Nat) : Int) = 240 := by decide
      show 0 ≤ l.getD 0 0 - hd ((4 : Nat) : Int) ∧ l.getD 0 0 - hd ((4 : Nat) : Int) < 32
      rw [getD_of H0.out, e]
      have := HLO.out; omega
    have HX1 := Lib.hid hx1
    clear hx0 hx1
    go_loop [5, 31] (fun r i => FRel l 4 r i) (fun _ i => (4 - intOf i).toNat)
    case atStart => exact ⟨0, x0, rfl, rfl, hx2.1, .inl ⟨rfl, by omega, by omega, HX1.out, conts0 l⟩⟩
    case round =>
      obtain ⟨s, x, rfl, rfl, hx0, hcs⟩ := hrel
      rcases hcs with ⟨rfl, hN, hxl, hfx, hcx⟩ | ⟨rfl, hN, hxl, hfx, hcx⟩ | ⟨rfl, hN, hxl, hfx, hcx⟩ | ⟨rfl, hN, hxl, hfx, hcx⟩
      · obtain ⟨c1, hc1⟩ : ∃ c1, l[1]? = some c1 := ⟨l[1]'(by omega), by simp⟩
        have hcc : w.cell? ⟨g, off + 1, none⟩ = some (.int .u8 c1) := HC.out 1 c1 hc1
        have hr := HR.out c1 (List.mem_of_getElem? hc1)
        have H1 := Lib.hid hc1
        have HFX := Lib.hid hfx
        clear hc1 hfx
        by_cases hct : 128 ≤ c1 ∧ c1 < 192
        · have ht : (c1 / 64 != 2) = false := by simp; omega
          have hsb : bits .or .i32 (x * 64) (c1 % 64) = x * 64 + c1 % 64 := six_bits hx0 (by omega)
          go_wp2
          go_round
          case rel => exact ⟨_, _, rfl, by first | rfl | (rw [hsb]), by omega, .inr (.inl ⟨rfl, by omega, by omega, facc_succ HFX.out H1.out hct.1 hct.2, hcx.snoc (by rw [getD_of H1.out]; exact hct)⟩)⟩
          case measure => simp [intOf]
        · have ht : (c1 / 64 != 2) = true := by simp; omega
          go_wp2
          go_ret2
          exact ⟨0, 0, nq, rfl, first_off (N := 4) (j := 1) H0.out HA.out (by omega) (by omega) H1.out hct, rfl⟩
      · obtain ⟨c1, hc1⟩ : ∃ c1, l[2]? = some c1 := ⟨l[2]'(by omega), by simp⟩
        have hcc : w.cell? ⟨g, off + 2, none⟩ = some (.int .u8 c1) := HC.out 2 c1 hc1
        have hr := HR.out c1 (List.mem_of_getElem? hc1)
        have H1 := Lib.hid hc1
        have HFX := Lib.hid hfx
        clear hc1 hfx
        by_cases hct : 128 ≤ c1 ∧ c1 < 192
        · have ht : (c1 / 64 != 2) = false := by simp; omega
          have hsb : bits .or .i32 (x * 64) (c1 % 64) = x * 64 + c1 % 64 := six_bits hx0 (by omega)
          go_wp2
          go_round
          case rel => exact ⟨_, _, rfl, by first | rfl | (rw [hsb]), by omega, .inr (.inr (.inl ⟨rfl, by omega, by omega, facc_succ HFX.out H1.out hct.1 hct.2, hcx.snoc (by rw [getD_of H1.out]; exact hct)⟩))⟩
          case measure => simp [intOf]
        · have ht : (c1 / 64 != 2) = true := by simp; omega
          go_wp2
          go_ret2
          exact ⟨0, 0, nq, rfl, first_off (N := 4) (j := 2) H0.out HA.out (by omega) (by omega) H1.out hct, rfl⟩
      · obtain ⟨c1, hc1⟩ : ∃ c1, l[3]? = some c1 := ⟨l[3]'(by omega), by simp⟩
        have hcc : w.cell? ⟨g, off + 3, none⟩ = some (.int .u8 c1) := HC.out 3 c1 hc1
        have hr := HR.out c1 (List.mem_of_getElem? hc1)
        have H1 := Lib.hid hc1
        have HFX := Lib.hid hfx
        clear hc1 hfx
        by_cases hct : 128 ≤ c1 ∧ c1 < 192
        · have ht : (c1 / 64 != 2) = false := by simp; omega
          have hsb : bits .or .i32 (x * 64) (c1 % 64) = x * 64 + c1 % 64 := six_bits hx0 (by omega)
          go_wp2
          go_round
          case rel => exact ⟨_, _, rfl, by first | rfl | (rw [hsb]), by omega, .inr (.inr (.inr ⟨rfl, by omega, by omega, facc_succ HFX.out H1.out hct.1 hct.2, hcx.snoc (by rw [getD_of H1.out]; exact hct)⟩))⟩
          case measure => simp [intOf]
        · have ht : (c1 / 64 != 2) = true := by simp; omega
          go_wp2
          go_ret2
          exact ⟨0, 0, nq, rfl, first_off (N := 4) (j := 3) H0.out HA.out (by omega) (by omega) H1.out hct, rfl⟩
      · have HFX := Lib.hid hfx
        clear hfx
        by_cases hln : ln x = 4
        · have HL := Lib.hid hln
          have HM := Lib.hid (show (ln x : Int) = 4 by omega)
          clear hln
          go_wp2_with (go_at_call 19; (with_reducible refine (len_is _ 4 _ HM.out).mono ?_); rintro e w' ⟨rfl, rfl⟩)
          go_ret2
          exact ⟨x, 4, nq, rfl, first_good (N := 4) H0.out hb.1 HA.out (by omega) hlen hcx HFX.out HL.out, rfl⟩
        · obtain ⟨m, hm⟩ : ∃ m : Int, (ln x : Int) = m := ⟨_, rfl⟩
          have hmz : (m != 4) = true := by simp; omega
          have HL := Lib.hid hln
          have HM := Lib.hid hm
          clear hln hm
          go_wp2_with (go_at_call 19; (with_reducible refine (len_is _ m _ HM.out).mono ?_); rintro e w' ⟨rfl, rfl⟩)
          go_ret2
          exact ⟨0, 0, nq, rfl, first_none (N := 4) H0.out HA.out HFX.out HL.out, rfl⟩

end Go.Proofs.Ytambempcicakgaa.U
