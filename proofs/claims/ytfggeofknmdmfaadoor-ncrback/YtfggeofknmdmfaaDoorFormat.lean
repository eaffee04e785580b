/- What strconv.FormatInt answers of a number below 2^24 at base 16: its digits in small letters. The library's table of trailing zeros must hold what it holds. -/
import Derived.Test.YtfggeofknmdmfaaDoorRefExp
namespace Go.Proofs.YtfggeofknmdmfaaDoor.U
open Go.RowKit
set_option linter.unusedVariables false

/-- The one place of the library's table that is read. -/
def Tz (w : World) : Prop := w.cell? ⟨8, 15, none⟩ = some (.int .u8 4)
theorem Tz.bel {w w' : World} (h : Tz w) (hb : Bel w w') : Tz w' := (Below.cell hb (p := ⟨8, 15, none⟩) (cell_block h)).trans h

theorem and16 : bits .and .u64 16 (IntKind.u64.wrap (-16)) = 16 := by decide +kernel
theorem tz64_16 (w : World) (h : Tz w) : Calls Tryd.prog 67 #[.int .u64 16] w fun e w' => e = .returned (.int .i64 4) ∧ w = w' := by
  unfold Tz at h
  have h1 := and16
  have h2 : IntKind.u64.wrap (16 * 285870213051353865) = 4573923408821661840 := by rw [IntKind.wrap_u64]; decide
  go_enter Tryd.func67, Tryd.ntmps67
  go_wp2
  go_ret
  exact ⟨rfl, rfl⟩
theorem tz_16 (w : World) (h : Tz w) : Calls Tryd.prog 57 #[.int .u64 16] w fun e w' => e = .returned (.int .i64 4) ∧ w = w' := by
  have H := Lib.hid (tz64_16 w h)
  clear h
  go_enter Tryd.func57, Tryd.ntmps57
  go_wp2_with (go_at_call 67; (with_reducible refine H.out.mono ?_); rintro e w' ⟨rfl, rfl⟩)
  go_ret
  exact ⟨rfl, rfl⟩
theorem and15 : bits .and .i64 16 15 = 0 := by decide +kernel
theorem pow2_16 (w : World) : Calls Tryd.prog 56 #[.int .i64 16] w fun e w' => e = .returned (.bool true) ∧ w = w' := by
  have h1 := and15
  go_enter Tryd.func56, Tryd.ntmps56
  go_wp2
  go_ret
  exact ⟨rfl, rfl⟩

/-- Small letters for digits. -/
def hl (d : Int) : Int := if d < 10 then 48 + d else 87 + d
theorem low_at (d : Int) (h : d.toNat < (ByteArray.mk #[48, 49, 50, 51, 52, 53, 54, 55, 56, 57, 97, 98, 99, 100, 101, 102, 103, 104, 105, 106, 107, 108, 109, 110, 111, 112, 113, 114, 115, 116, 117, 118, 119, 120, 121, 122]).size) (h0 : 0 ≤ d) (h1 : d < 16) :
    ((((ByteArray.mk #[48, 49, 50, 51, 52, 53, 54, 55, 56, 57, 97, 98, 99, 100, 101, 102, 103, 104, 105, 106, 107, 108, 109, 110, 111, 112, 113, 114, 115, 116, 117, 118, 119, 120, 121, 122])[d.toNat]'h).toNat : Nat) : Int) = hl d := by
  obtain rfl | rfl | rfl | rfl | rfl | rfl | rfl | rfl | rfl | rfl | rfl | rfl | rfl | rfl | rfl | rfl : d = 0 ∨ d = 1 ∨ d = 2 ∨ d = 3 ∨ d = 4 ∨ d = 5 ∨ d = 6 ∨ d = 7 ∨ d = 8 ∨ d = 9 ∨ d = 10 ∨ d = 11 ∨ d = 12 ∨ d = 13 ∨ d = 14 ∨ d = 15 := by omega
  all_goals rfl

/-- The last digits of r, and what is left of it. -/
def Low (r : Int) (ds : List Int) (u : Int) : Prop :=
  (ds = [] ∧ u = r) ∨ (ds = [hl (r % 16)] ∧ u = r / 16 ∧ 16 ≤ r) ∨ (ds = [hl (r / 16 % 16), hl (r % 16)] ∧ u = r / 256 ∧ 256 ≤ r) ∨ (ds = [hl (r / 256 % 16), hl (r / 16 % 16), hl (r % 16)] ∧ u = r / 4096 ∧ 4096 ≤ r) ∨
  (ds = [hl (r / 4096 % 16), hl (r / 256 % 16), hl (r / 16 % 16), hl (r % 16)] ∧ u = r / 65536 ∧ 65536 ≤ r) ∨
  (ds = [hl (r / 65536 % 16), hl (r / 4096 % 16), hl (r / 256 % 16), hl (r / 16 % 16), hl (r % 16)] ∧ u = r / 1048576 ∧ 1048576 ≤ r)
theorem low_next {r u : Int} {ds : List Int} (r0 : 0 ≤ r) (r1 : r < 16777216) (h : Low r ds u) (hu : 16 ≤ u) : Low r (hl (u % 16) :: ds) (u / 16) := by
  rcases h with ⟨rfl, rfl⟩ | ⟨rfl, rfl, _⟩ | ⟨rfl, rfl, _⟩ | ⟨rfl, rfl, _⟩ | ⟨rfl, rfl, _⟩ | ⟨rfl, rfl, _⟩
  · exact .inr (.inl ⟨rfl, rfl, by omega⟩)
  · exact .inr (.inr (.inl ⟨rfl, by omega, by omega⟩))
  · exact .inr (.inr (.inr (.inl ⟨rfl, by omega, by omega⟩)))
  · exact .inr (.inr (.inr (.inr (.inl ⟨rfl, by omega, by omega⟩))))
  · exact .inr (.inr (.inr (.inr (.inr ⟨rfl, by omega, by omega⟩))))
  · exfalso; omega
theorem low_range {r u : Int} {ds : List Int} (r0 : 0 ≤ r) (r1 : r < 16777216) (h : Low r ds u) : ds.length ≤ 5 ∧ 0 ≤ u ∧ u < 16777216 := by
  rcases h with ⟨rfl, rfl⟩ | ⟨rfl, rfl, _⟩ | ⟨rfl, rfl, _⟩ | ⟨rfl, rfl, _⟩ | ⟨rfl, rfl, _⟩ | ⟨rfl, rfl, _⟩ <;> simp <;> omega
theorem hl_range {d : Int} (h0 : 0 ≤ d) (h1 : d < 16) : 48 ≤ hl d ∧ hl d < 103 := by unfold hl; split <;> omega
theorem low_bytes {r u : Int} {ds : List Int} (r0 : 0 ≤ r) (h : Low r ds u) : ∀ x ∈ ds, 0 ≤ x ∧ x < 128 := by
  have k : ∀ d : Int, 0 ≤ d → d < 16 → 0 ≤ hl d ∧ hl d < 128 := fun d h0 h1 => by have := hl_range h0 h1; omega
  intro x hx
  rcases h with ⟨rfl, rfl⟩ | ⟨rfl, rfl, _⟩ | ⟨rfl, rfl, _⟩ | ⟨rfl, rfl, _⟩ | ⟨rfl, rfl, _⟩ | ⟨rfl, rfl, _⟩
  · simp at hx
  all_goals
    simp only [List.mem_cons, List.not_mem_nil, or_false] at hx
    rcases hx with rfl | rfl | rfl | rfl | rfl <;> exact k _ (by omega) (by omega)

theorem u64_and15 (u : Int) (h0 : 0 ≤ u) (h1 : u < 16777216) : bits .and .u64 u 15 = u % 16 := by
  rw [u64_and u 15 h0 (by omega) (by omega) (by omega)]
  have : u.toNat &&& (15 : Int).toNat = u.toNat % 16 := Nat.and_two_pow_sub_one_eq_mod u.toNat 4
  rw [this]
  omega

/-- A block of 65 bytes of the call's own, the last ones of which, from p on, are these. -/
structure Arr (W : World) (ds : List Int) (p : Nat) (w : World) : Prop where
  bel : Bel W w
  size : W.heap.size < w.heap.size
  cell : ∀ j, j < 65 → ∃ z, w.cell? ⟨W.heap.size, j, none⟩ = some (.int .u8 z)
  froz : ∀ j, w.frozen? ⟨W.heap.size, j, none⟩ = false
  len : ds.length + p = 65
  rd : ∀ j z, ds[j]? = some z → w.cell? ⟨W.heap.size, p + j, none⟩ = some (.int .u8 z)
theorem zeros82 : Tryd.zeroCells82 = Array.replicate 65 (.int .u8 0) := by rfl
theorem Arr.start (W : World) : Arr W [] 65 (W.alloc (.cells Tryd.zeroCells82 82)) := by
  refine ⟨(Bel.refl _).alloc _, by simp, fun j hj => ⟨0, ?_⟩, fun j => ?_, rfl, fun j z hz => by simp at hz⟩
  · rw [World.cell?_alloc_mark W Tryd.zeroCells82 82 (0, 0) j, zeros82]
    simp [hj]
  · rw [World.frozen?_alloc_mark W Tryd.zeroCells82 82 0 0 j]; simp
theorem Arr.put {W w : World} {ds : List Int} {p : Nat} {z : Int} (h : Arr W ds (p + 1) w) : Arr W (z :: ds) p (w.setCell ⟨W.heap.size, p, none⟩ (.int .u8 z)) := by
  have hl := h.len
  have hp : p < 65 := by omega
  obtain ⟨y, hy⟩ := h.cell p hp
  have hne : ∀ j, j ≠ p → (w.setCell ⟨W.heap.size, p, none⟩ (.int .u8 z)).cell? ⟨W.heap.size, j, none⟩ = w.cell? ⟨W.heap.size, j, none⟩ := fun j hj => World.cell?_setCell_other _ _ _ _ (by intro e; exact hj (by injection e with _ e; exact e.symm))
  have hsame : (w.setCell ⟨W.heap.size, p, none⟩ (.int .u8 z)).cell? ⟨W.heap.size, p, none⟩ = some (.int .u8 z) := World.cell?_setCell_same _ _ _ hy
  refine ⟨Below.setCell h.bel (Nat.le_refl _) _, by simpa using h.size, fun j hj => ?_, fun j => by simpa using h.froz j, by simp; omega, fun j x hx => ?_⟩
  · by_cases e : j = p
    · subst e; exact ⟨z, hsame⟩
    · rw [hne j e]; exact h.cell j hj
  · rcases j with _ | j
    · simp at hx; subst hx; simpa using hsame
    · simp at hx
      rw [hne _ (by omega)]
      have := h.rd j x hx
      rw [show p + (j + 1) = p + 1 + j by omega]; exact this
theorem Arr.toRd {W w : World} {ds : List Int} {p : Nat} (h : Arr W ds p w) : Rd w (W.heap.size + 1) .u8 (some ⟨W.heap.size, p, none⟩) ds := fun i x hx => ⟨W.heap.size, p, rfl, Nat.lt_succ_self _, h.rd i x hx⟩

def FRel (W : World) (r : Int) (u i : Value) (w : World) : Prop := ∃ (ds : List Int) (v : Int) (p : Nat), u = .int .u64 v ∧ i = .int .i64 p ∧ Hid (Low r ds v) ∧ Hid (Arr W ds p w)
def FPost (W : World) (r : Int) (e : Ending) (w : World) : Prop := ∃ ds u, e = .returned (.tuple #[.slice none 0 0, .string (str (hl u :: ds))]) ∧ Low r ds u ∧ u < 16 ∧ Bel W w

set_option maxRecDepth 100000 in
set_option maxHeartbeats 2000000 in
theorem formatBits_any (r : Int) (w : World) (h : Tz w) (r0 : 0 ≤ r) (r1 : r < 16777216) :
    Calls Tryd.prog 45 #[.slice none 0 0, .int .u64 r, .int .i64 16, .bool false, .bool false] w (FPost w r) := by
  have H0 := Lib.hid (Arr.start w)
  go_enter Tryd.func45, Tryd.ntmps45
  go_wp2_with (first
    | (go_at_call 56; (with_reducible refine (pow2_16 _).mono ?_); rintro e w' ⟨rfl, rfl⟩)
    | (go_at_call 57; (with_reducible refine (tz_16 _ (h.bel ((Bel.refl _).alloc _))).mono ?_); rintro e w' ⟨rfl, rfl⟩))
  go_loopw [1, 13] (fun u i wr => FRel w r u i wr) (fun u _ _ => (intOf u).toNat)
  case atStart => exact ⟨[], r, 65, rfl, rfl, Lib.hid (.inl ⟨rfl, rfl⟩), H0⟩
  case round =>
    obtain ⟨ds, v, p, rfl, rfl, HL, HA⟩ := hrel
    obtain ⟨hd, v0, v1⟩ := low_range r0 r1 HL.out
    obtain ⟨p, rfl⟩ : ∃ p', p = p' + 1 := ⟨p - 1, by have := HA.out.len; omega⟩
    have hp : p < 65 := by have := HA.out.len; omega
    obtain ⟨y, hy⟩ := HA.out.cell p hp
    have hfz := HA.out.froz p
    have i1 : (0 : Int) ≤ (p : Int) := by omega
    have i2 : (p : Int) < 65 := by omega
    by_cases hu : 16 ≤ v
    · have hand := u64_and15 v v0 v1
      have v16 : 0 ≤ v % 16 ∧ v % 16 < 16 := by omega
      have HL2 := Lib.hid (low_next r0 r1 HL.out hu)
      generalize hz : hl (v % 16) = z at HL2
      have hdg := fun h => (low_at (v % 16) h v16.1 v16.2).trans hz
      have HA2 := Lib.hid (HA.out.put (z := z))
      clear hz
      go_wp2
      exact ⟨⟨z :: ds, v / 16, p, rfl, rfl, HL2, HA2⟩, by simp [intOf]; omega⟩
    · have v16 : v < 16 := by omega
      generalize hz : hl v = z
      have hdg := fun h => (low_at v h v0 v16).trans hz
      have hA2 := HA.out.put (z := z)
      obtain ⟨n, hn⟩ : ∃ n, 65 - p = n := ⟨_, rfl⟩
      have hzb := hl_range v0 v16
      rw [hz] at hzb
      have hrun := fun c => run_str_bytes (P := Tryd.prog) (wr.setCell ⟨w.heap.size, p, none⟩ (.int .u8 z)) 24 9 5 Tryd.underlying24 Tryd.underlying5 Tryd.underlying9 (c := c) (n := n) hA2.toRd (by have := hA2.len; omega) (fun x hx => by
        rcases List.mem_cons.1 hx with rfl | hx
        · omega
        · have := low_bytes r0 HL.out x hx; omega)
      have hsl : ∀ W, (Instr.sliceAt 82 (.pointer (some ⟨w.heap.size, 0, none⟩)) (some (.int .i64 (p : Nat))) none none).run Tryd.prog W = .ok (.slice (some ⟨w.heap.size, p, none⟩) n n) W := fun W => by
        have hal : Tryd.prog.arrayLen 82 = 65 := by simp [Program.arrayLen, Tryd.underlying82]
        rw [run_sliceAt_array_l W 82 ⟨w.heap.size, 0, none⟩ (by simp [Program.arrayLen, Program.elem, Tryd.underlying82]) .i64 p (by omega) (by rw [hal]; omega)]
        rw [hal]
        have e1 : ¬ 65 = p := by omega
        go_simp
      have FIN : Hid (FPost w r (.returned (.tuple #[.slice none 0 0, .string (str (z :: ds))])) (wr.setCell ⟨w.heap.size, p, none⟩ (.int .u8 z))) := Lib.hid ⟨ds, v, by rw [hz], HL.out, v16, hA2.bel⟩
      generalize str (z :: ds) = S at hrun FIN
      clear hz hA2 hzb hn
      go_wp2
      go_ret2
      exact FIN.out

def StrPost (W : World) (r : Int) (e : Ending) (w : World) : Prop := ∃ ds u, e = .returned (.string (str (hl u :: ds))) ∧ Low r ds u ∧ u < 16 ∧ Bel W w
theorem iformatInt_any (r : Int) (w : World) (h : Tz w) (r0 : 0 ≤ r) (r1 : r < 16777216) : Calls Tryd.prog 32 #[.int .i64 r, .int .i64 16] w (StrPost w r) := by
  have H := Lib.hid (formatBits_any r w h r0 r1)
  clear h
  have hneg : decide (r < 0) = false := by simp; omega
  have hw : IntKind.u64.wrap r = r := by rw [IntKind.wrap_u64]; omega
  go_enter Tryd.func32, Tryd.ntmps32
  go_wp2_with fail
  refine H.out.mono ?_
  rintro e w' ⟨ds, u, rfl, hL, hu, hb⟩
  go_wp2
  go_ret
  exact ⟨ds, u, rfl, hL, hu, hb⟩
theorem formatInt_any (r : Int) (w : World) (h : Tz w) (r0 : 0 ≤ r) (r1 : r < 16777216) : Calls Tryd.prog 22 #[.int .i64 r, .int .i64 16] w (StrPost w r) := by
  have H := Lib.hid (iformatInt_any r w h r0 r1)
  clear h
  go_enter Tryd.func22, Tryd.ntmps22
  go_wp2_with (go_at_call 32; (with_reducible refine H.out.mono ?_); rintro e w' ⟨ds, u, rfl, hL, hu, hb⟩)
  go_ret
  exact ⟨ds, u, rfl, hL, hu, hb⟩
end Go.Proofs.YtfggeofknmdmfaaDoor.U
