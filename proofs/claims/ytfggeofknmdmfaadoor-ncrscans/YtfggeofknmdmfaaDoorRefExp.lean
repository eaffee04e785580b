/- What the reference's Has and Expand answer. At most 10000 characters. -/
import Derived.Test.YtfggeofknmdmfaaDoorRefScan
namespace Go.Proofs.YtfggeofknmdmfaaDoor.U
open Go.RowKit
set_option linter.unusedVariables false

set_option maxHeartbeats 2000000 in
theorem rhas_any (A : Option Addr) (n c : Nat) (l : List Int) (B : Nat) (w : World) (h : Rd w B .i32 A l) (hn : l.length = n) (hcap : n ≤ c) (hbig : n ≤ 1000000) :
    Calls Tryd.prog 17 #[.slice A n c] w (HasPost w l) := by
  have H := Lib.hid h
  have HN := Lib.hid hn
  clear h hn
  go_enter Tryd.func17, Tryd.ntmps17
  go_wp2
  go_loopw [3] (fun i wr => HasRel w l i wr) (fun i _ => n - (intOf i).toNat)
  case atStart => exact ⟨0, rfl, Nat.zero_le _, fun j hj => by omega, Bel.refl _⟩
  case round =>
    obtain ⟨k, rfl, hk, hno, hb⟩ := hrel
    rw [HN.out] at hk
    have HO := Lib.hid hno
    clear hno
    by_cases hlt : k < n
    · obtain ⟨g, off, rfl, hg, hgw⟩ := H.out.isSome (by rw [HN.out]; omega)
      have HR : Hid (Rd wr B .i32 (some ⟨g, off + k, none⟩) (l.drop k)) := Lib.hid (H.out.bel hb).drop
      have q0 : (0 : Int) ≤ (k : Int) := by omega
      have q1 : (k : Int) < (n : Int) := by omega
      have q2 : (k : Int) ≤ (n : Int) := by omega
      have q3 : ¬ c = k := by omega
      have q4 : ¬ k = c := by omega
      go_wp2_with fail
      refine (rscan_any _ (n - k) _ (l.drop k) B wr HR.out (by rw [List.length_drop, HN.out]) (by omega) (by omega)).mono ?_
      rintro e w1 ⟨v, n1, rfl, hS, hb1⟩
      have hr := scans_range hS
      by_cases h0 : n1 = 0
      · subst h0
        have HE := Lib.hid (has_next HO.out hS)
        clear hS
        go_wp2
        go_roundw
        case rel => exact ⟨k + 1, by go_num, by rw [HN.out]; omega, HE.out, hb.trans hb1⟩
        case measure => simp [intOf]; omega
      · have hp : (0 : Int) < (n1 : Int) := by omega
        have HE := Lib.hid (has_yes hS (by omega))
        clear hS
        go_wp2
        go_ret
        exact ⟨true, rfl, HE.out, hb.trans hb1⟩
    · have HE := Lib.hid (has_end HO.out (by rw [HN.out]; omega))
      go_wp2
      go_ret
      exact ⟨false, rfl, HE.out, hb⟩

set_option maxHeartbeats 2000000 in
theorem rexpand_any (A : Option Addr) (n c : Nat) (l : List Int) (B : Nat) (w : World) (h : Rd w B .i32 A l) (hn : l.length = n) (hcap : n ≤ c) (hbig : n ≤ 10000) :
    Calls Tryd.prog 19 #[.slice A n c] w (ExpPost w l) := by
  obtain ⟨i0, hi0, hz0, hz1, hz2⟩ := info_parts info21
  have H := Lib.hid h
  have HN := Lib.hid hn
  clear h hn
  go_enter Tryd.func19, Tryd.ntmps19
  go_wp2
  go_loopw [3, 4] (fun v i wr => ExpRel w l v i wr) (fun _ i _ => n - (intOf i).toNat)
  case atStart => exact ⟨0, [], rfl, Nat.zero_le _, Nat.le_refl _, fun o ho => by simpa using ho, Own.nil _ _ _ _, Bel.refl _⟩
  case round =>
    obtain ⟨k, out, rfl, hk, hout, hno, hown, hb⟩ := hrel
    rw [HN.out] at hk
    have HO := Lib.hid hno
    clear hno
    by_cases hlt : k < n
    · obtain ⟨g, off, rfl, hg, hgw⟩ := H.out.isSome (by rw [HN.out]; omega)
      have HR : Hid (Rd wr B .i32 (some ⟨g, off + k, none⟩) (l.drop k)) := Lib.hid (H.out.bel hb).drop
      obtain ⟨x, hx⟩ : ∃ x, l[k]? = some x := ⟨l[k]'(by rw [HN.out]; exact hlt), by simp⟩
      have q0 : (0 : Int) ≤ (k : Int) := by omega
      have q1 : (k : Int) < (n : Int) := by omega
      have q2 : (k : Int) ≤ (n : Int) := by omega
      have q3 : ¬ c = k := by omega
      have q4 : ¬ k = c := by omega
      have HX := Lib.hid hx
      clear hx
      go_wp2_with fail
      refine (rscan_any _ (n - k) _ (l.drop k) B wr HR.out (by rw [List.length_drop, HN.out]) (by omega) (by omega)).mono ?_
      rintro e w1 ⟨v, n1, rfl, hS, hb1⟩
      have hr := scans_range hS
      have hc1 : w1.cell? ⟨g, off + k, none⟩ = some (.int .i32 x) := ((H.out.bel hb).bel hb1).at HX.out
      have hsz := Below.size hb
      have hsz1 := Below.size hb1
      by_cases h0 : n1 = 0
      · subst h0
        have HE := Lib.hid (exp_step1 HO.out HX.out hS)
        have HW := Lib.hid ((hown.keep hb1).keep ((Bel.refl w1).alloc (.cells #[.int .i32 x] 21)))
        clear hS hown
        go_wp2_with (at_builtin; refine wpl_append (by rfl) (.tmp 24) (.tmp 26) 22 rfl Tryd.underlying22 hi0 hz0 hz1 hz2 rfl (by omega) HW.out rfl (rd_lit (l := [x]) rfl) rfl rfl (fun e => by cases e) (by omega) (by simp; omega) ?_; intro v2 w2 hown2 hb2)
        have hbw2 : Bel w w2 := Below.trans ((hb.trans hb1).alloc _) hb2
        try go_wp2
        go_roundw
        case rel => exact ⟨k + 1, out ++ [x], by go_num, by rw [HN.out]; omega, by simp; omega, HE.out, hown2, hbw2⟩
        case measure => simp [intOf]; omega
      · have hp : ((n1 : Int) == 0) = false := by simp; omega
        have hE := exp_step2 HO.out hS (by omega)
        have hle := hE.1
        rw [HN.out] at hle
        have HE := Lib.hid hE.2
        have HW := Lib.hid ((hown.keep hb1).keep ((Bel.refl w1).alloc (.cells #[.int .i32 v] 21)))
        clear hS hE hown
        go_wp2_with (at_builtin; refine wpl_append (by rfl) (.tmp 24) (.tmp 26) 22 rfl Tryd.underlying22 hi0 hz0 hz1 hz2 rfl (by omega) HW.out rfl (rd_lit (l := [v]) rfl) rfl rfl (fun e => by cases e) (by omega) (by simp; omega) ?_; intro v2 w2 hown2 hb2)
        have hbw2 : Bel w w2 := Below.trans ((hb.trans hb1).alloc _) hb2
        try go_wp2
        go_roundw
        case rel => exact ⟨k + n1, out ++ [v], by go_num, by rw [HN.out]; omega, by simp; omega, HE.out, hown2, hbw2⟩
        case measure => simp [intOf]; omega
    · have HE := Lib.hid (exp_fin HO.out (by rw [HN.out]; omega))
      go_wp2
      go_ret
      exact ⟨_, out, rfl, HE.out, hown, hb⟩
end Go.Proofs.YtfggeofknmdmfaaDoor.U
