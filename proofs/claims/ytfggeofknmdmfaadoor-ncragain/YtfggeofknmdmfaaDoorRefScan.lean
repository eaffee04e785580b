/- What the reference's Scan answers: which reference a text begins with, and how long it is. -/
import Derived.Test.YtfggeofknmdmfaaDoorRef
namespace Go.Proofs.YtfggeofknmdmfaaDoor.U
open Go.RowKit
set_option linter.unusedVariables false

/-- No reference shorter than so many digits stands there. -/
def From (l : List Int) (n : Nat) : Prop := ∀ v t, scB v = true → l = refL v ++ t → n + 4 ≤ (refL v).length
theorem from_4 (l : List Int) : From l 4 := fun v t hv e => by have := ref_pos hv; omega
theorem from_7 {l : List Int} (h : From l 7) : Scans l 0 0 := .inr ⟨rfl, rfl, fun r t hr e => by have := h r t hr e; have := ref_pos hr; omega⟩
theorem from_short {l : List Int} {n : Nat} (h : From l n) (hl : l.length < n + 4) : Scans l 0 0 := .inr ⟨rfl, rfl, fun r t hr e => by
  have h1 := h r t hr e
  have h2 := congrArg List.length e
  simp at h2
  omega⟩
theorem scan_n {l t : List Int} {n : Nat} {v : Int} (hv : scB v = true) (e : l = refL v ++ t) (hl : (refL v).length = n + 4) : (l.drop 3).take n = dg v ∧ l.take (n + 4) = refL v := by
  have hd : (dg v).length = n := by have := ref_length hv; omega
  refine ⟨?_, ?_⟩
  · rw [e, ref_yes hv]
    simp [← hd]
  · rw [e, ← hl]; simp
theorem from_next {l : List Int} {n : Nat} (h : From l n) (hno : ∀ v t, scB v = true → l = refL v ++ t → (refL v).length ≠ n + 4) : From l (n + 1) := fun v t hv e => by
  have h1 := h v t hv e
  have h2 := hno v t hv e
  omega

/-- What the first loop has found behind k digits. -/
def Digs (l : List Int) (k : Nat) (x : Int) (b : Bool) : Prop := 0 ≤ x ∧ x < 16 ^ k ∧ ((b = true ∧ x = num ((l.drop 3).take k) ∧ ∀ c ∈ (l.drop 3).take k, isD c = true) ∨ (b = false ∧ ¬ ∀ c ∈ (l.drop 3).take k, isD c = true))
theorem digs_0 (l : List Int) : Digs l 0 0 true := ⟨by omega, by decide, .inl ⟨rfl, by simp [num], by simp⟩⟩
theorem pow_le {k : Nat} (h : k ≤ 6) : (16 : Int) ^ k ≤ 16777216 := by
  rcases (show k = 0 ∨ k = 1 ∨ k = 2 ∨ k = 3 ∨ k = 4 ∨ k = 5 ∨ k = 6 by omega) with e | e | e | e | e | e | e <;> rw [e] <;> decide
theorem digs_range {l : List Int} {k : Nat} {x : Int} {b : Bool} (h : Digs l k x b) (hk : k ≤ 6) : 0 ≤ x ∧ x < 16777216 := by
  have := pow_le hk; have := h.1; have := h.2.1; omega
theorem take_snoc' {l : List Int} {k : Nat} {c : Int} (hc : (l.drop 3)[k]? = some c) : (l.drop 3).take (k + 1) = (l.drop 3).take k ++ [c] := by
  rw [List.take_add_one, hc]; rfl
theorem digs_yes {l : List Int} {k : Nat} {x c : Int} {b : Bool} (h : Digs l k x b) (hc : (l.drop 3)[k]? = some c) (hD : isD c = true) : Digs l (k + 1) (16 * x + val c) b := by
  have hv := D_hx hD
  have h3 : (16 : Int) ^ (k + 1) = 16 * 16 ^ k := by rw [Int.pow_succ]; omega
  refine ⟨by have := h.1; omega, by have := h.2.1; omega, ?_⟩
  rw [take_snoc' hc]
  rcases h.2.2 with ⟨rfl, hx, ha⟩ | ⟨rfl, ha⟩
  · refine .inl ⟨rfl, by rw [num_snoc, hx], fun y hy => ?_⟩
    rcases List.mem_append.1 hy with hy | hy
    · exact ha y hy
    · simp at hy; subst hy; exact hD
  · exact .inr ⟨rfl, fun hh => ha fun y hy => hh y (by simp [hy])⟩
theorem digs_no {l : List Int} {k : Nat} {x c : Int} {b : Bool} (h : Digs l k x b) (hc : (l.drop 3)[k]? = some c) (hD : isD c = false) : Digs l (k + 1) x false := by
  have h3 : (16 : Int) ^ (k + 1) = 16 * 16 ^ k := by rw [Int.pow_succ]; omega
  refine ⟨h.1, by have := h.1; have := h.2.1; omega, .inr ⟨rfl, fun hh => ?_⟩⟩
  have := hh c (by rw [take_snoc' hc]; simp)
  rw [this] at hD; cases hD
theorem digs_48 {l : List Int} {k : Nat} {x c : Int} {b : Bool} (h : Digs l k x b) (hc : (l.drop 3)[k]? = some c) (hD : 48 ≤ c ∧ c ≤ 57) : Digs l (k + 1) (16 * x + (c - 48)) b := by
  have := digs_yes h hc (isD_true.2 (.inl hD))
  have hv : val c = c - 48 := by unfold val; rw [if_pos (by omega)]
  rwa [hv] at this
theorem digs_65 {l : List Int} {k : Nat} {x c : Int} {b : Bool} (h : Digs l k x b) (hc : (l.drop 3)[k]? = some c) (hD : 65 ≤ c ∧ c ≤ 70) : Digs l (k + 1) (16 * x + (c - 65) + 10) b := by
  have := digs_yes h hc (isD_true.2 (.inr hD))
  have hv : val c = c - 55 := by unfold val; rw [if_neg (by omega)]
  rw [hv] at this
  have e : 16 * x + (c - 65) + 10 = 16 * x + (c - 55) := by omega
  rwa [e]
theorem from_bad {l : List Int} {n : Nat} {x : Int} (h : From l n) (hd : Digs l n x false) : From l (n + 1) := from_next h fun v t hv e hl => by
  rcases hd.2.2 with ⟨h, _⟩ | ⟨_, hno⟩
  · cases h
  · exact hno (by rw [(scan_n hv e hl).1]; exact dg_D hv)
theorem digs_num {l : List Int} {n : Nat} {x : Int} (hd : Digs l n x true) : x = num ((l.drop 3).take n) := by
  rcases hd.2.2 with ⟨_, h, _⟩ | ⟨h, _⟩
  · exact h
  · cases h
theorem from_nosc {l : List Int} {n : Nat} {x : Int} (h : From l n) (hd : Digs l n x true) (hs : scB x = false) : From l (n + 1) := from_next h fun v t hv e hl => by
  rw [digs_num hd, (scan_n hv e hl).1, num_dg hv, hv] at hs
  cases hs
theorem from_other {l : List Int} {n : Nat} {x : Int} (h : From l n) (hd : Digs l n x true) (hne : refL x ≠ l.take (n + 4)) : From l (n + 1) := from_next h fun v t hv e hl => by
  have h1 := scan_n hv e hl
  rw [digs_num hd, h1.1, num_dg hv, h1.2] at hne
  exact hne rfl
theorem scans_found {l : List Int} {n : Nat} {x : Int} (hs : scB x = true) (hl : n + 4 ≤ l.length) (he : refL x = l.take (n + 4)) : Scans l x (n + 4) := by
  refine .inl ⟨hs, by rw [he]; simp; omega, l.drop (n + 4), ?_⟩
  rw [he, List.take_append_drop]

/-- What the last loop has found. -/
def Cmp (l q : List Int) (n m k : Nat) (b : Bool) : Prop := (b = true ∧ m = n + 4 ∧ q.take k = l.take k) ∨ (b = false ∧ ¬ q = l.take (n + 4))

theorem cmp_yes {l q : List Int} {n m : Nat} (h : m = n + 4) : Cmp l q n m 0 true := .inl ⟨rfl, h, by simp⟩
theorem cmp_no {l q : List Int} {n m : Nat} (h : ¬ m = n + 4) (hm : q.length = m) (hl : n + 4 ≤ l.length) : Cmp l q n m 0 false := .inr ⟨rfl, fun e => by
  have := congrArg List.length e
  simp at this
  omega⟩
theorem cmp_same {l q : List Int} {n m k : Nat} {x : Int} (h : Cmp l q n m k true) (hx : l[k]? = some x) (hz : q[k]? = some x) : Cmp l q n m (k + 1) true := by
  rcases h with ⟨_, hm, he⟩ | ⟨h, _⟩
  · exact .inl ⟨rfl, hm, by rw [List.take_add_one, List.take_add_one, he, hx, hz]⟩
  · cases h
theorem cmp_other {l q : List Int} {n m k : Nat} {x z : Int} (h : Cmp l q n m k true) (hk : k < m) (hx : l[k]? = some x) (hz : q[k]? = some z) (hne : x ≠ z) : Cmp l q n m (k + 1) false := by
  rcases h with ⟨_, hm, he⟩ | ⟨h, _⟩
  · refine .inr ⟨rfl, fun e => hne ?_⟩
    rw [e, List.getElem?_take, if_pos (by omega), hx] at hz
    simpa using hz
  · cases h
theorem cmp_end {l q : List Int} {n m : Nat} (h : Cmp l q n m m true) (hq : q.length = m) : q = l.take (n + 4) := by
  rcases h with ⟨_, hm, he⟩ | ⟨h, _⟩
  · rw [List.take_of_length_le (by omega), hm] at he; exact he
  · cases h
theorem cmp_false {l q : List Int} {n m k : Nat} (h : Cmp l q n m k false) : q ≠ l.take (n + 4) := by
  rcases h with ⟨h, _⟩ | ⟨_, h⟩
  · cases h
  · exact h
theorem cmp_eq {l q : List Int} {n m k : Nat} (h : Cmp l q n m k true) : m = n + 4 := by
  rcases h with ⟨_, h, _⟩ | ⟨h, _⟩
  · exact h
  · cases h
def OutRel (W : World) (l : List Int) (i : Value) (w : World) : Prop := ∃ n : Nat, i = .int .i64 n ∧ 4 ≤ n ∧ n ≤ 7 ∧ Hid (From l n) ∧ Bel W w
def DigRel (W : World) (l : List Int) (n : Nat) (x b i : Value) (w : World) : Prop := ∃ (k : Nat) (y : Int) (d : Bool), i = .int .i64 k ∧ x = .int .i64 y ∧ b = .bool d ∧ k ≤ n ∧ Hid (Digs l k y d) ∧ w = W
def CmpRel (W : World) (l q : List Int) (n m : Nat) (b i : Value) (w : World) : Prop := ∃ (k j : Nat) (d : Bool), i = .int .i64 k ∧ b = .bool d ∧ k ≤ m ∧ Hid (Cmp l q n m k d) ∧ w = W.drewN j

set_option maxRecDepth 100000 in
set_option maxHeartbeats 4000000 in
theorem rscan_any (A : Option Addr) (N c : Nat) (l : List Int) (B : Nat) (w : World) (h : Rd w B .i32 A l) (hN : l.length = N) (hcap : N ≤ c) (hbig : N ≤ 1000000) :
    Calls Tryd.prog 14 #[.slice A N c] w (ScanPost w l) := by
  have H := Lib.hid h
  have HN := Lib.hid hN
  clear h hN
  go_enter Tryd.func14, Tryd.ntmps14
  go_wp2
  go_loopw [4] (fun i wr => OutRel w l i wr) (fun i _ => 7 - (intOf i).toNat)
  case atStart => exact ⟨4, rfl, by omega, by omega, Lib.hid (from_4 l), Bel.refl _⟩
  case round =>
    obtain ⟨n, rfl, hn4, hn7, HF, hb⟩ := hrel
    by_cases h7 : n = 7
    · subst h7
      have HE := Lib.hid (from_7 HF.out)
      go_wp2
      go_ret2
      exact ⟨0, 0, rfl, HE.out, hb⟩
    · have q1 : (n : Int) ≤ 6 := by omega
      by_cases hs : N < n + 4
      · have q2 : (N : Int) < (n : Int) + 4 := by omega
        have HE := Lib.hid (from_short HF.out (by rw [HN.out]; exact hs))
        go_wp2
        go_ret2
        exact ⟨0, 0, rfl, HE.out, hb⟩
      · have q2 : ¬ (N : Int) < (n : Int) + 4 := by omega
        obtain ⟨g, off, rfl, hg, hgw⟩ := H.out.isSome (by rw [HN.out]; omega)
        have HR : Hid (Rd wr B .i32 (some ⟨g, off, none⟩) l) := Lib.hid (H.out.bel hb)
        have hn6 : n ≤ 6 := by omega
        have hNn : n + 4 ≤ N := by omega
        have hsz := Below.size hb
        clear hn7 h7 hs
        go_wp2
        go_loopw [5, 6, 7] (fun x b i wr' => DigRel wr l n x b i wr') (fun _ _ i _ => n - (intOf i).toNat)
        case atStart => exact ⟨0, 0, true, rfl, rfl, rfl, Nat.zero_le _, Lib.hid (digs_0 l), rfl⟩
        case round =>
          obtain ⟨k, y, d, rfl, rfl, rfl, hk, HD, rfl⟩ := hrel
          obtain ⟨y0, y1⟩ := digs_range HD.out (by omega)
          by_cases hlt : k < n
          · have q3 : (k : Int) < (n : Int) := by omega
            obtain ⟨x, hx⟩ : ∃ x, (l.drop 3)[k]? = some x := ⟨(l.drop 3)[k]'(by rw [List.length_drop, HN.out]; omega), by simp⟩
            have hc : wr.cell? ⟨g, off + (3 + k), none⟩ = some (.int .i32 x) := HR.out.at (by rw [List.getElem?_drop] at hx; exact hx)
            have q4 : (0 : Int) ≤ 3 + (k : Int) := by omega
            have q5 : 3 + (k : Int) < (N : Int) := by omega
            have HX := Lib.hid hx
            clear hx
            go_wp2
            · exact ⟨⟨k + 1, _, d, by go_num, rfl, rfl, by omega, Lib.hid (digs_48 HD.out HX.out (by omega)), rfl⟩, by simp [intOf]; omega⟩
            · exact ⟨⟨k + 1, _, d, by go_num, rfl, rfl, by omega, Lib.hid (digs_65 HD.out HX.out (by omega)), rfl⟩, by simp [intOf]; omega⟩
            · exact ⟨⟨k + 1, y, false, by go_num, rfl, rfl, by omega, Lib.hid (digs_no HD.out HX.out (isD_false.2 (by omega))), rfl⟩, by simp [intOf]; omega⟩
            · exact ⟨⟨k + 1, y, false, by go_num, rfl, rfl, by omega, Lib.hid (digs_no HD.out HX.out (isD_false.2 (by omega))), rfl⟩, by simp [intOf]; omega⟩
            · exact ⟨⟨k + 1, y, false, by go_num, rfl, rfl, by omega, Lib.hid (digs_no HD.out HX.out (isD_false.2 (by omega))), rfl⟩, by simp [intOf]; omega⟩
          · obtain rfl : k = n := by omega
            have q3 : ¬ (k : Int) < (k : Int) := by omega
            rcases d with _ | _
            · have HE := Lib.hid (from_bad HF.out HD.out)
              go_wp2
              go_roundw
              case rel => exact ⟨k + 1, by go_num, by omega, by omega, HE, hb⟩
              case measure => simp [intOf]; omega
            · by_cases hsc : scB y = true
              · go_wp2_with (first
                  | (go_at_call 10; (with_reducible refine (rscalar_is _ true _ hsc).mono ?_); rintro e w' ⟨rfl, rfl⟩)
                  | fail)
                refine (ref_any y wr).mono ?_
                rintro e w3 ⟨v3, rfl, hown3, hb3⟩
                obtain ⟨A3, c3, rfl, hc3, hr3, hnil3⟩ := hown3.rd
                obtain ⟨m, hm⟩ : ∃ m, (refL y).length = m := ⟨_, rfl⟩
                have hm8 := ref_pos hsc
                rw [hm] at hm8 hc3 ⊢
                obtain ⟨g3, o3, rfl, _, _⟩ := hr3.isSome (by omega)
                have HM := Lib.hid hm
                have HQ := Lib.hid hr3
                have HR3 := Lib.hid (HR.out.bel hb3)
                have HB3 := Lib.hid (hb.trans hb3)
                obtain ⟨d0, hd0⟩ : ∃ d0, ((m : Int) == (k : Int) + 4) = d0 := ⟨_, rfl⟩
                have HC0 : Hid (Cmp l (refL y) k m 0 d0) := Lib.hid (by
                  cases d0 with
                  | true => exact cmp_yes (by simp at hd0; omega)
                  | false => exact cmp_no (by simp at hd0; omega) HM.out (by rw [HN.out]; omega))
                clear hm hown3 hr3 hnil3
                go_wp2
                go_loopw [10, 11] (fun b i wr' => CmpRel w3 l (refL y) k m b i wr') (fun _ i _ => m - (intOf i).toNat)
                case atStart => exact ⟨0, 0, d0, rfl, rfl, Nat.zero_le _, HC0, rfl⟩
                case round =>
                  obtain ⟨j, q, d, rfl, rfl, hj, HC, rfl⟩ := hrel
                  rcases d with _ | _
                  · have HE := Lib.hid (from_other HF.out HD.out (cmp_false HC.out))
                    by_cases hjm : j < m
                    · have q4 : (j : Int) < (m : Int) := by omega
                      go_wp2
                      go_roundw
                      case rel => exact ⟨k + 1, by go_num, by omega, by omega, HE, HB3.out.drewN _⟩
                      case measure => simp [intOf]; omega
                    · have q4 : ¬ (j : Int) < (m : Int) := by omega
                      go_wp2
                      go_roundw
                      case rel => exact ⟨k + 1, by go_num, by omega, by omega, HE, HB3.out.drewN _⟩
                      case measure => simp [intOf]; omega
                  · have HMK := Lib.hid (cmp_eq HC.out)
                    by_cases hjm : j < m
                    · have q4 : (j : Int) < (m : Int) := by omega
                      have q5 : (j : Int) < (N : Int) := by have := HMK.out; omega
                      have q6 : (0 : Int) ≤ (j : Int) := by omega
                      obtain ⟨x, hx⟩ : ∃ x, l[j]? = some x := ⟨l[j]'(by rw [HN.out]; omega), by simp⟩
                      obtain ⟨z, hz⟩ : ∃ z, (refL y)[j]? = some z := ⟨(refL y)[j]'(by rw [HM.out]; omega), by simp⟩
                      have c1 := HR3.out.at hx
                      have c2 := HQ.out.at hz
                      have hzr := ref_asc y z (List.mem_of_getElem? hz)
                      obtain ⟨z0, z1⟩ := hzr
                      have HX := Lib.hid hx
                      have HZ := Lib.hid hz
                      clear hx hz
                      by_cases hxz : x = z
                      · have q7 : (x == z) = true := by simpa using hxz
                        have HE := Lib.hid (cmp_same HC.out HX.out (by rw [hxz]; exact HZ.out))
                        clear hxz
                        go_wp2
                        go_quiet (fail)
                        go_wp2
                        go_roundw
                        case rel => exact ⟨j + 1, _, true, by go_num, by first | rfl | rw [q7], by omega, HE, rfl⟩
                        case measure => simp [intOf]; omega
                      · have q7 : (x == z) = false := by simpa using hxz
                        have HE := Lib.hid (cmp_other HC.out hjm HX.out HZ.out hxz)
                        clear hxz
                        go_wp2
                        go_quiet (fail)
                        go_wp2
                        go_roundw
                        case rel => exact ⟨j + 1, _, false, by go_num, by first | rfl | rw [q7], by omega, HE, rfl⟩
                        case measure => simp [intOf]; omega
                    · have q4 : ¬ (j : Int) < (m : Int) := by omega
                      obtain rfl : j = m := by omega
                      have HE := Lib.hid (scans_found hsc (by rw [HN.out]; omega) (cmp_end HC.out HM.out))
                      go_wp2
                      go_ret2
                      exact ⟨y, k + 4, by go_num, HE.out, HB3.out.drewN _⟩
              · have hsc' : scB y = false := by simpa using hsc
                have HE := Lib.hid (from_nosc HF.out HD.out hsc')
                go_wp2_with (go_at_call 10; (with_reducible refine (rscalar_is _ false _ hsc').mono ?_); rintro e w' ⟨rfl, rfl⟩)
                go_roundw
                case rel => exact ⟨k + 1, by go_num, by omega, by omega, HE, hb⟩
                case measure => simp [intOf]; omega
end Go.Proofs.YtfggeofknmdmfaaDoor.U
