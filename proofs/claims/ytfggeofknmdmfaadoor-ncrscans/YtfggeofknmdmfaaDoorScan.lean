/- What ncr.Scan answers: which reference a text begins with, and how long it is. -/
import Derived.Test.YtfggeofknmdmfaaDoorParse
namespace Go.Proofs.YtfggeofknmdmfaaDoor.U
open Go.RowKit
set_option linter.unusedVariables false

def Good (l : List Int) : Prop := 4 ≤ l.length ∧ (l.length = 4 ∨ l[0]? ≠ some 48) ∧ scB (num l) = true
def NumIs (l : List Int) (v : Int) (b : Bool) : Prop := (b = true ∧ v = num l ∧ Good l) ∨ (b = false ∧ v = 0 ∧ ¬ Good l)

def NumPost (w : World) (l : List Int) (e : Ending) (w' : World) : Prop := ∃ v b, e = .returned (.tuple #[.int .i32 v, .bool b]) ∧ NumIs l v b ∧ Bel w w'

set_option maxHeartbeats 1000000 in
theorem number_any (A : Option Addr) (n c : Nat) (l : List Int) (B : Nat) (w : World) (h : Rd w B .i32 A l) (hn : l.length = n) (hD : ∀ c ∈ l, isD c = true) (h6 : n ≤ 6) :
    Calls Tryd.prog 25 #[.slice A n c] w (NumPost w l) := by
  by_cases h4 : n < 4
  · have hq : (n : Int) < 4 := by omega
    go_enter Tryd.func25, Tryd.ntmps25
    go_wp2
    go_ret2
    exact ⟨0, false, rfl, .inr ⟨rfl, rfl, fun hg => by have := hg.1; omega⟩, Bel.refl _⟩
  · obtain ⟨x, hx⟩ : ∃ x, l[0]? = some x := ⟨l[0]'(by omega), by simp⟩
    obtain ⟨g, off, rfl, hg, hc⟩ := h 0 x hx
    have hc0 : w.cell? ⟨g, off, none⟩ = some (.int .i32 x) := hc
    have hrun : ∀ c, (convert 22 9 (.slice (some ⟨g, off, none⟩) n c)).run Tryd.prog w = .ok (.string (str l)) w := fun c =>
      run_str_runes (P := Tryd.prog) w 22 9 21 Tryd.underlying22 Tryd.underlying21 Tryd.underlying9 h hn (fun x hx => by have := isD_true.1 (hD x hx); omega)
    have HP := Lib.hid (fun w => parseInt_any l n w hD hn (by omega) h6)
    have hr := num_range hD (by omega)
    have HX := Lib.hid hx
    have HN := Lib.hid hn
    generalize hS : str l = S at hrun HP
    obtain ⟨v, hv⟩ : ∃ v, num l = v := ⟨_, rfl⟩
    rw [hv] at HP hr
    obtain ⟨v0, v1⟩ := hr
    have HV := Lib.hid hv
    clear hv hn hS hD hx h hc
    have q4 : ¬ (n : Int) < 4 := by omega
    by_cases hz : 4 < n ∧ x = 48
    · obtain ⟨hz1, rfl⟩ := hz
      have q5 : (4 : Int) < (n : Int) := by omega
      go_enter Tryd.func25, Tryd.ntmps25
      go_wp2
      go_ret2
      exact ⟨0, false, rfl, .inr ⟨rfl, rfl, fun hg => by
        rcases hg.2.1 with h | h
        · have := HN.out; omega
        · exact h HX.out⟩, Bel.refl _⟩
    · have HZ : Hid (l.length = 4 ∨ l[0]? ≠ some 48) := Lib.hid (by
        by_cases e : n = 4
        · exact .inl (by rw [HN.out]; exact e)
        · exact .inr (by rw [HX.out]; intro e2; exact hz ⟨by omega, by simpa using e2⟩))
      by_cases hs : scB v = true
      · have fin : ∀ w', Bel w w' → NumPost w l (.returned (.tuple #[.int .i32 v, .bool true])) w' := fun w' hb =>
          ⟨v, true, rfl, .inl ⟨rfl, HV.out.symm, by have := HN.out; omega, HZ.out, by rw [HV.out]; exact hs⟩, hb⟩
        have FIN := Lib.hid fin
        clear fin
        by_cases h5 : 4 < n
        · have q5 : (4 : Int) < (n : Int) := by omega
          have qx : (x == 48) = false := by simp; intro e; exact hz ⟨h5, e⟩
          clear hz
          go_enter Tryd.func25, Tryd.ntmps25
          go_wp2_with (first
            | (go_at_call 34; (with_reducible refine (HP.out _).mono ?_); rintro e w' ⟨rfl, hb⟩)
            | (go_at_call 20; (with_reducible refine (scalar_is _ true _ hs).mono ?_); rintro e w' ⟨rfl, rfl⟩))
          go_ret2
          exact FIN.out _ hb
        · have q5 : ¬ (4 : Int) < (n : Int) := by omega
          clear hz
          go_enter Tryd.func25, Tryd.ntmps25
          go_wp2_with (first
            | (go_at_call 34; (with_reducible refine (HP.out _).mono ?_); rintro e w' ⟨rfl, hb⟩)
            | (go_at_call 20; (with_reducible refine (scalar_is _ true _ hs).mono ?_); rintro e w' ⟨rfl, rfl⟩))
          go_ret2
          exact FIN.out _ hb
      · have hs' : scB v = false := by simpa using hs
        have fin : ∀ w', Bel w w' → NumPost w l (.returned (.tuple #[.int .i32 0, .bool false])) w' := fun w' hb =>
          ⟨0, false, rfl, .inr ⟨rfl, rfl, fun hg => by have := hg.2.2; rw [HV.out] at this; exact hs this⟩, hb⟩
        have FIN := Lib.hid fin
        clear fin
        by_cases h5 : 4 < n
        · have q5 : (4 : Int) < (n : Int) := by omega
          have qx : (x == 48) = false := by simp; intro e; exact hz ⟨h5, e⟩
          clear hz hs
          go_enter Tryd.func25, Tryd.ntmps25
          go_wp2_with (first
            | (go_at_call 34; (with_reducible refine (HP.out _).mono ?_); rintro e w' ⟨rfl, hb⟩)
            | (go_at_call 20; (with_reducible refine (scalar_is _ false _ hs').mono ?_); rintro e w' ⟨rfl, rfl⟩))
          go_ret2
          exact FIN.out _ hb
        · have q5 : ¬ (4 : Int) < (n : Int) := by omega
          clear hz hs
          go_enter Tryd.func25, Tryd.ntmps25
          go_wp2_with (first
            | (go_at_call 34; (with_reducible refine (HP.out _).mono ?_); rintro e w' ⟨rfl, hb⟩)
            | (go_at_call 20; (with_reducible refine (scalar_is _ false _ hs').mono ?_); rintro e w' ⟨rfl, rfl⟩))
          go_ret2
          exact FIN.out _ hb

/-- What is found where a reference's beginning is followed by its digits. -/
theorem scan_math {l : List Int} {k : Nat} (h3 : l.take 3 = [38, 35, 120]) (hc : Cnt (l.drop 3) k) :
    (∀ v t, scB v = true → l = refL v ++ t → (dg v).length = k ∧ (l.drop 3)[k]? = some 59 ∧ (l.drop 3).take k = dg v) := by
  intro v t hv e
  have hl : l.drop 3 = dg v ++ 59 :: t := by rw [e, ref_yes hv]; simp
  have hd := dg_length hv
  obtain ⟨h6, hle, hD, hend⟩ := hc
  rw [hl] at hle hD hend ⊢
  have key : k = (dg v).length := by
    rcases Nat.lt_trichotomy k (dg v).length with hlt | he | hgt
    · exfalso
      rcases hend with h | h | ⟨c, hc, hcd⟩
      · omega
      · simp at h; omega
      · rw [List.getElem?_append_left hlt] at hc
        have := dg_D hv c (List.mem_of_getElem? hc)
        rw [this] at hcd; cases hcd
    · exact he
    · exfalso
      have : (59 : Int) ∈ (dg v ++ 59 :: t).take k := by
        rw [List.take_append]
        obtain ⟨j, hj⟩ : ∃ j, k - (dg v).length = j + 1 := ⟨k - (dg v).length - 1, by omega⟩
        rw [hj]; simp
      exact absurd (hD 59 this) (by decide)
  subst key
  simp
theorem scans_no_begin {l : List Int} (h3 : ¬ l.take 3 = [38, 35, 120]) : Scans l 0 0 := .inr ⟨rfl, rfl, fun r t hr e => h3 (by rw [e, ref_yes hr]; simp)⟩
theorem scans_no_end {l : List Int} {k : Nat} (h3 : l.take 3 = [38, 35, 120]) (hc : Cnt (l.drop 3) k) (h59 : (l.drop 3)[k]? ≠ some 59) : Scans l 0 0 :=
  .inr ⟨rfl, rfl, fun r t hr e => h59 (scan_math h3 hc r t hr e).2.1⟩
theorem scans_number {l : List Int} {k : Nat} {v : Int} {b : Bool} (h3 : l.take 3 = [38, 35, 120]) (hc : Cnt (l.drop 3) k) (h59 : (l.drop 3)[k]? = some 59) (hN : NumIs ((l.drop 3).take k) v b) :
    (b = true ∧ Scans l v (k + 4)) ∨ (b = false ∧ Scans l 0 0) := by
  have hlen : ((l.drop 3).take k).length = k := by have := hc.2.1; simp at this ⊢; omega
  rcases hN with ⟨rfl, rfl, hg⟩ | ⟨rfl, rfl, hg⟩
  · refine .inl ⟨rfl, .inl ⟨hg.2.2, ?_, l.drop (k + 4), ?_⟩⟩
    · rw [ref_length hg.2.2, dg_num hc.2.2.1 hg.1 (by rw [hlen]; exact hc.1) hg.2.1, hlen]
    · rw [ref_yes hg.2.2, dg_num hc.2.2.1 hg.1 (by rw [hlen]; exact hc.1) hg.2.1]
      have e1 : l = l.take 3 ++ ((l.drop 3).take k ++ (l.drop 3).drop k) := by rw [List.take_append_drop, List.take_append_drop]
      have e2 : (l.drop 3).drop k = 59 :: l.drop (k + 4) := by
        obtain ⟨hk, hk2⟩ := List.getElem?_eq_some_iff.1 h59
        rw [List.drop_eq_getElem_cons hk, hk2, List.drop_drop]
        congr 2
        omega
      rw [e2, h3] at e1
      exact e1.trans (by simp)
  · refine .inr ⟨rfl, .inr ⟨rfl, rfl, fun r t hr e => hg ?_⟩⟩
    have hm := scan_math h3 hc r t hr e
    have hd := dg_length hr
    rw [hm.2.2]
    refine ⟨hd.1, ?_, by rw [num_dg hr]; exact hr⟩
    by_cases h4 : (dg r).length = 4
    · exact .inl h4
    · exact .inr (dg_head hr (by omega))

def ScanPost (w : World) (l : List Int) (e : Ending) (w' : World) : Prop := ∃ (v : Int) (n : Nat), e = .returned (.tuple #[.int .i32 v, .int .i64 n]) ∧ Scans l v n ∧ Bel w w'

set_option maxHeartbeats 2000000 in
theorem scan_any (A : Option Addr) (n c : Nat) (l : List Int) (B : Nat) (w : World) (h : Rd w B .i32 A l) (hn : l.length = n) (hcap : n ≤ c) (hbig : n ≤ 1000000) :
    Calls Tryd.prog 13 #[.slice A n c] w (ScanPost w l) := by
  by_cases h3 : l.take 3 = [38, 35, 120]
  · have hn3 : 3 ≤ n := by have := congrArg List.length h3; simp at this; omega
    obtain ⟨g, off, rfl, hg, hgw⟩ := h.isSome (by omega)
    have HB := Lib.hid (fun w' (hw' : Rd w' B .i32 (some ⟨g, off, none⟩) l) => begins_is (some ⟨g, off, none⟩) n c l B true w' hw' hn (by simp [h3]))
    have HL : Hid ((l.drop 3).length = n - 3) := Lib.hid (by simp; omega)
    have H := Lib.hid h
    have H3 := Lib.hid h3
    have HN := Lib.hid hn
    clear h h3 hn
    have q1 : (3 : Int) ≤ (n : Int) := by omega
    have q2 : (3 : Int) ≤ (c : Int) := by omega
    go_enter Tryd.func13, Tryd.ntmps13
    go_wp2_with (go_at_call 23; (with_reducible refine (HB.out _ H.out).mono ?_); rintro e w1 ⟨rfl, hb1⟩)
    · have hd : l.drop 3 = [] := List.drop_eq_nil_of_le (by have := HN.out; omega)
      have hm : n - 3 = 0 := by omega
      rw [hm]
      refine (countDigits_any _ 0 0 [] B w1 Rd.nil rfl).mono ?_
      rintro e w2 ⟨k, rfl, hc, rfl⟩
      obtain rfl : k = 0 := by have := hc.2.1; simpa using this
      have HE := Lib.hid (scans_no_end (l := l) (k := 0) H3.out (by rw [hd]; exact hc) (by rw [hd]; simp))
      clear hc hd
      go_wp2
      go_ret2
      exact ⟨0, 0, rfl, HE.out, hb1⟩
    · have hr1 : Rd w1 B .i32 (some ⟨g, off + 3, none⟩) (l.drop 3) := (H.out.bel hb1).drop
      have HR := Lib.hid hr1
      have hlen : (l.drop 3).length = n - 3 := HL.out
      generalize n - 3 = m at hlen ⊢
      have HM := Lib.hid hlen
      refine (countDigits_any _ m _ (l.drop 3) B w1 hr1 hlen).mono ?_
      rintro e w2 ⟨k, rfl, hc, rfl⟩
      have hk := hc.2.1
      have hk6 := hc.1
      rw [hlen] at hk
      have HC := Lib.hid hc
      clear hc hr1 hlen
      by_cases hkm : k = m
      · subst hkm
        have HE := Lib.hid (scans_no_end (l := l) (k := k) H3.out HC.out (by rw [List.getElem?_eq_none (by rw [HM.out]; omega)]; simp))
        go_wp2
        go_ret2
        exact ⟨0, 0, rfl, HE.out, hb1⟩
      · have q3 : ((k : Int) == (m : Int)) = false := by simp; omega
        obtain ⟨x, hx⟩ : ∃ x, (l.drop 3)[k]? = some x := ⟨(l.drop 3)[k]'(by rw [HM.out]; omega), by simp⟩
        have hcell := HR.out.at hx
        have q4 : (0 : Int) ≤ (k : Int) := by omega
        have q5 : (k : Int) < (m : Int) := by omega
        have HX := Lib.hid hx
        clear hx
        by_cases h59 : x = 59
        · subst h59
          have q6 : (k : Int) ≤ (c : Int) - 3 := by
            have e1 := HM.out
            rw [List.length_drop, HN.out] at e1
            omega
          go_wp2_with fail
          refine (number_any _ k _ ((l.drop 3).take k) B w1 HR.out.take (by rw [List.length_take, HM.out]; omega) HC.out.2.2.1 hk6).mono ?_
          rintro e w3 ⟨v, b, rfl, hN, hb3⟩
          rcases scans_number H3.out HC.out HX.out hN with ⟨rfl, hS⟩ | ⟨rfl, hS⟩
          · have HE := Lib.hid hS
            clear hS hN
            go_wp2
            go_ret2
            exact ⟨v, k + 4, by go_num, HE.out, hb1.trans hb3⟩
          · have HE := Lib.hid hS
            clear hS hN
            go_wp2
            go_ret2
            exact ⟨0, 0, rfl, HE.out, hb1.trans hb3⟩
        · have q6 : (x != 59) = true := by simpa using h59
          have HE := Lib.hid (scans_no_end (l := l) (k := k) H3.out HC.out (by rw [HX.out]; simpa using h59))
          go_wp2
          go_ret2
          exact ⟨0, 0, rfl, HE.out, hb1⟩
  · have HB := Lib.hid (fun w' (hw' : Rd w' B .i32 A l) => begins_is A n c l B false w' hw' hn (by simp [h3]))
    have H := Lib.hid h
    have H3 := Lib.hid h3
    clear h h3 hn
    go_enter Tryd.func13, Tryd.ntmps13
    go_wp2_with (go_at_call 23; (with_reducible refine (HB.out _ H.out).mono ?_); rintro e w1 ⟨rfl, hb1⟩)
    go_ret2
    exact ⟨0, 0, rfl, scans_no_begin H3.out, hb1⟩
end Go.Proofs.YtfggeofknmdmfaaDoor.U
