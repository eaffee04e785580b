/- What the reference's Class answers: the same class. -/
import Derived.Test.YtdjaacmaljcnhaaDoorRef
namespace Go.Proofs.YtdjaacmaljcnhaaDoor.U
open Go.RowKit
set_option linter.unusedVariables false

def IntIs (w : World) (v : Int) (e : Ending) (w' : World) : Prop := e = .returned (.int .i64 v) ∧ Bel w w'
def ClassRel (w : World) (r : Int) (i : Value) (w' : World) : Prop :=
  ∃ k : Nat, i = .int .i64 k ∧ k ≤ 43 ∧ Hid (∀ j u, j < k → rtab[j]? = some u → inB u r = false) ∧ ∃ q, w' = w.drewN q

set_option maxRecDepth 100000 in
set_option maxHeartbeats 4000000 in
theorem rclass_is (r v : Int) (w : World) (hr : -2147483648 ≤ r ∧ r ≤ 2147483647) (hv : cls r = v) : Calls Tryd.prog 11 #[.int .i32 r] w (IntIs w v) := by
  have HV := Lib.hid (show lookR rtab r = v from hv)
  clear hv
  obtain ⟨r0, r1⟩ := hr
  go_enter Tryd.func11, Tryd.ntmps11
  go_wp2_with (go_at_call 16; refine (rspans_any w).mono ?_; rintro e w1 ⟨g, rfl, hR, hb1⟩)
  have HR := Lib.hid hR
  clear hR
  go_loopw [4] (fun i wr => ClassRel w1 r i wr) (fun i _ => 43 - (intOf i).toNat)
  case atStart => exact ⟨0, rfl, by omega, Lib.hid fun j u hj => by omega, 0, rfl⟩
  case round =>
    obtain ⟨k, rfl, hk, HK, q, rfl⟩ := hrel
    by_cases hlt : k < 43
    · obtain ⟨s, hs⟩ := rtab_at hlt
      obtain ⟨d0, d1, d2, d3⟩ := HR.out.at hs
      have hrow := rtab_row hs
      have q0 : (0 : Int) ≤ (k : Int) := by omega
      have q1 : (k : Int) < 43 := by omega
      obtain ⟨s0, s1, s2, s3⟩ := s
      dsimp only at d0 d1 d2 d3 hrow
      by_cases hin : inB (s0, s1, s2, s3) r = true
      · have e0 := HV.out
        rw [lookR_at hs HK.out hin] at e0
        have hin' := inB_true.1 hin
        dsimp only [cval] at hin' e0
        obtain ⟨g0, g1⟩ := hin'
        obtain ⟨h0, h1, h2, h3, h4, h5⟩ := hrow
        have p0 : ¬ r < s0 := by omega
        clear hin HK hs HV HR
        rcases h5 with rfl | rfl
        · rw [Int.mul_zero, Int.add_zero] at e0
          subst e0
          go_wp2
          go_quiet (fail)
          go_wp2
          go_ret
          exact ⟨by first | rfl | exact ret_int (by omega), (hb1.drewN _).drewN _⟩
        · rw [Int.mul_one] at e0
          have q2 : 0 ≤ r - s0 := by omega
          have q3 : r - s0 ≤ 65059 := by omega
          go_wp2
          go_quiet (fail)
          go_wp2
          go_ret
          exact ⟨by first | rfl | exact ret_int (by omega), (hb1.drewN _).drewN _⟩
      · have hin0 : inB (s0, s1, s2, s3) r = false := by simpa using hin
        have hin' := inB_false.1 hin0
        dsimp only at hin'
        have HN : Hid (∀ j u, j < k + 1 → rtab[j]? = some u → inB u r = false) := Lib.hid fun j u hj hu => by
          rcases Nat.lt_or_eq_of_le (Nat.le_of_lt_succ hj) with h | rfl
          · exact HK.out j u h hu
          · obtain rfl := Option.some.inj (hs.symm.trans hu)
            exact hin0
        clear hin hin0 HK hs
        by_cases h1 : r < s0
        · go_wp2
          go_roundw
          case rel => exact ⟨k + 1, by go_num, by omega, HN, q, rfl⟩
          case measure => simp [intOf]; omega
        · have h2 : s1 < r := by omega
          clear hin'
          go_wp2
          go_roundw
          case rel => exact ⟨k + 1, by go_num, by omega, HN, q, rfl⟩
          case measure => simp [intOf]; omega
    · obtain rfl : k = 43 := by omega
      have e0 := HV.out
      rw [lookR_none fun s hs => by
        obtain ⟨i, hi⟩ := List.getElem?_of_mem hs
        exact HK.out i s (by rw [← rtab_len]; exact (List.getElem?_eq_some_iff.1 hi).1) hi] at e0
      subst e0
      clear HV HK HR
      go_wp2
      go_ret
      exact ⟨rfl, hb1.drewN _⟩
end Go.Proofs.YtdjaacmaljcnhaaDoor.U
