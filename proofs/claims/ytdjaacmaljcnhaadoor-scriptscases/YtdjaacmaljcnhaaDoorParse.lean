/- What strconv.ParseInt answers of one to six digits of base 16, for 32 bits: their number. -/
import Derived.Test.YtdjaacmaljcnhaaDoorChecked
import Derived.Test.YtdjaacmaljcnhaaDoorBase
import Derived.LoopN
namespace Go.Proofs.YtdjaacmaljcnhaaDoor.U
open Go.RowKit
set_option linter.unusedVariables false

theorem or32 {c : Int} (h0 : 65 ≤ c) (h1 : c ≤ 70) : bits .or .u8 c 32 = c + 32 := by
  obtain rfl | rfl | rfl | rfl | rfl | rfl : c = 65 ∨ c = 66 ∨ c = 67 ∨ c = 68 ∨ c = 69 ∨ c = 70 := by omega
  all_goals decide +kernel
theorem lower_is (c : Int) (w : World) (h0 : 65 ≤ c) (h1 : c ≤ 70) : Calls Tryd.prog 61 #[.int .u8 c] w fun e w' => e = .returned (.int .u8 (c + 32)) ∧ w = w' := by
  go_enter Tryd.func61, Tryd.ntmps61
  go_wp2
  go_ret
  exact ⟨ret_int (or32 h0 h1), rfl⟩

theorem str_ne {S : ByteArray} {l : List Int} (hS : S = str l) (h : 1 ≤ l.length) : S.toList.isEmpty = false := by
  rw [← decide_eq_emptyBytes]
  refine decide_eq_false fun e => ?_
  have h2 := str_size l
  rw [← hS, e] at h2
  simp [ByteArray.size] at h2
  omega

def ParseRel (l : List Int) (u v i : Value) : Prop := ∃ (k : Nat) (a : Int), u = .bool false ∧ i = .int .i64 k ∧ k ≤ l.length ∧ v = .int .u64 a ∧ Hid (a = num (l.take k))

set_option maxRecDepth 100000 in
set_option maxHeartbeats 4000000 in
theorem parseUint_any (l : List Int) (n : Nat) (w : World) (hD : ∀ c ∈ l, isD c = true) (hn : l.length = n) (h1 : 1 ≤ n) (h6 : n ≤ 6) :
    Calls Tryd.prog 53 #[.string (str l), .int .i64 16, .int .i64 32] w fun e w' => e = .returned (.tuple #[.int .u64 (num l), .nilIface]) ∧ Bel w w' := by
  have hA : ∀ x ∈ l, 0 ≤ x ∧ x < 256 := fun x hx => by have := isD_true.1 (hD x hx); omega
  obtain ⟨cap, w1, hrun, hrd, hb⟩ := run_bytes_str (P := Tryd.prog) w 9 56 5 Tryd.underlying9 Tryd.underlying56 Tryd.underlying5 hA hn
  obtain ⟨S, hS⟩ : ∃ S, S = str l := ⟨_, rfl⟩
  have hne : S.toList.isEmpty = false := str_ne hS (by omega)
  rw [← hS] at hrun ⊢
  have hmv : IntKind.u64.wrap (IntKind.u64.wrap 4294967296 - 1) = 4294967295 := by
    rw [IntKind.wrap_u64, IntKind.wrap_u64]
    decide
  have HN := Lib.hid hn
  have HD := Lib.hid hD
  have HR := Lib.hid hrd
  have HB := Lib.hid hb
  clear hS hn hD hrd hA hb
  go_enter Tryd.func53, Tryd.ntmps53
  go_wp2
  go_loop [12, 13, 101] (fun u v i => ParseRel l u v i) (fun _ _ i => n - (intOf i).toNat)
  case atStart => exact ⟨0, 0, rfl, rfl, Nat.zero_le _, rfl, by simp [num, Hid]⟩
  case round =>
    obtain ⟨k, a, rfl, rfl, hk, rfl, ha⟩ := hrel
    rw [HN.out] at hk
    by_cases hlt : k < n
    · obtain ⟨x, hx⟩ : ∃ x, l[k]? = some x := ⟨l[k]'(by rw [HN.out]; exact hlt), by simp⟩
      have hc : w1.cell? ⟨w.heap.size, k, none⟩ = some (.int .u8 x) := by have := HR.out.at hx; rwa [Nat.zero_add] at this
      have hxD := HD.out x (List.mem_of_getElem? hx)
      have hr := num_range (l := l.take k) (fun c hc => HD.out c (List.mem_of_mem_take hc)) (by simp; omega)
      rw [← ha.out] at hr
      obtain ⟨a0, a1⟩ := hr
      have HX := Lib.hid hx
      have hs : num (l.take (k + 1)) = 16 * a + val x := by
        rw [List.take_add_one, HX.out, Option.toList_some, num_snoc, ← ha.out]
      clear hx
      rcases isD_true.1 hxD with ⟨x0, x1⟩ | ⟨x0, x1⟩
      · have hv : val x = x - 48 := by unfold val; rw [if_pos (by omega)]
        have hq : (x == 95) = false := by simp; omega
        have HS : Hid (a * 16 + (x - 48) = num (l.take (k + 1))) := Lib.hid (by rw [hs, hv]; omega)
        clear hs hv hxD ha
        go_wp2
        refine ⟨⟨k + 1, a * 16 + (x - 48), rfl, (by first | rfl | (congr 1; omega)), by rw [HN.out]; omega, (by first | rfl | (congr 1; omega)), HS⟩, by simp [intOf]; omega⟩
      · have hv : val x = x - 55 := by unfold val; rw [if_neg (by omega)]
        have hq : (x == 95) = false := by simp; omega
        have HS : Hid (a * 16 + (x - 55) = num (l.take (k + 1))) := Lib.hid (by rw [hs, hv]; omega)
        clear hs hv hxD ha
        go_wp2_with (go_at_call 61; (with_reducible refine (lower_is _ _ x0 x1).mono ?_); rintro e w' ⟨rfl, rfl⟩)
        refine ⟨⟨k + 1, a * 16 + (x - 55), rfl, (by first | rfl | (congr 1; omega)), by rw [HN.out]; omega, (by first | rfl | (congr 1; omega)), HS⟩, by simp [intOf]; omega⟩
    · have HS : Hid (a = num l) := Lib.hid (by rw [ha.out, List.take_of_length_le (by rw [HN.out]; omega)])
      clear ha
      go_wp2
      go_ret2
      exact ⟨by rw [HS.out]; rfl, HB.out⟩

theorem str_at {S : ByteArray} {l : List Int} {x : Int} (hS : S = str l) (hx : l[0]? = some x) (h : 0 < S.size) : (S[0]'h).toNat = x.toNat % 256 := by
  subst hS
  rcases l with _ | ⟨y, t⟩
  · simp at hx
  · simp at hx
    subst hx
    simp [str, bs, ByteArray.getElem_eq_getElem_data]

set_option maxRecDepth 100000 in
set_option maxHeartbeats 4000000 in
theorem iparseInt_any (l : List Int) (n : Nat) (w : World) (hD : ∀ c ∈ l, isD c = true) (hn : l.length = n) (h1 : 1 ≤ n) (h6 : n ≤ 6) :
    Calls Tryd.prog 43 #[.string (str l), .int .i64 16, .int .i64 32] w fun e w' => e = .returned (.tuple #[.int .i64 (num l), .nilIface]) ∧ Bel w w' := by
  have HP := Lib.hid (fun w => parseUint_any l n w hD hn h1 h6)
  obtain ⟨x, hx⟩ : ∃ x, l[0]? = some x := ⟨l[0]'(by omega), by simp⟩
  have hxD := isD_true.1 (hD x (List.mem_of_getElem? hx))
  have hr := num_range hD (by omega)
  obtain ⟨S, hS⟩ : ∃ S, S = str l := ⟨_, rfl⟩
  have hne : S.toList.isEmpty = false := str_ne hS (by omega)
  have hsz : S.size = n := by rw [hS, str_size, hn]
  have hat := fun h : 0 < S.size => str_at hS hx h
  rw [← hS] at HP ⊢
  generalize hv : num l = v at hr HP ⊢
  obtain ⟨v0, v1⟩ := hr
  clear hS hn hD hv hx
  go_enter Tryd.func43, Tryd.ntmps43
  go_wp2_with (go_at_call 53; (with_reducible refine (HP.out _).mono ?_); rintro e w' ⟨rfl, hb⟩)
  go_ret2
  exact ⟨rfl, hb⟩

theorem parseInt_any (l : List Int) (n : Nat) (w : World) (hD : ∀ c ∈ l, isD c = true) (hn : l.length = n) (h1 : 1 ≤ n) (h6 : n ≤ 6) :
    Calls Tryd.prog 37 #[.string (str l), .int .i64 16, .int .i64 32] w fun e w' => e = .returned (.tuple #[.int .i64 (num l), .nilIface]) ∧ Bel w w' := by
  have HP := Lib.hid (fun w => iparseInt_any l n w hD hn h1 h6)
  generalize str l = S at HP ⊢
  generalize num l = v at HP ⊢
  clear hn hD
  go_enter Tryd.func37, Tryd.ntmps37
  go_wp2_with (go_at_call 43; (with_reducible refine (HP.out _).mono ?_); rintro e w' ⟨rfl, hb⟩)
  go_ret2
  exact ⟨rfl, hb⟩

/-- What 'hexadecimal' answers of one to four digits. -/
theorem hex_is (l : List Int) (w : World) (hD : ∀ c ∈ l, isD c = true) (h1 : 1 ≤ l.length) (h4 : l.length ≤ 4) (h16 : num l < 65536) :
    Calls Tryd.prog 26 #[.string (str l)] w fun e w' => e = .returned (.int .i32 (num l)) ∧ Bel w w' := by
  have HP := Lib.hid (fun w => parseInt_any l l.length w hD rfl h1 (by omega))
  have v0 := (num_range hD (by omega)).1
  generalize str l = S at HP ⊢
  generalize num l = v at HP v0 h16 ⊢
  clear h1 h4 hD
  go_enter Tryd.func26, Tryd.ntmps26
  go_wp2_with (go_at_call 37; (with_reducible refine (HP.out _).mono ?_); rintro e w' ⟨rfl, hb⟩)
  go_ret
  exact ⟨by first | rfl | exact ret_int (by omega), hb⟩
end Go.Proofs.YtdjaacmaljcnhaaDoor.U
