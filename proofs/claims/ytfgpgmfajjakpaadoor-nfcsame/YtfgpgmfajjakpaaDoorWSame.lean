/- NfcSame answers true at any two lists and any place; nothing that was there is changed. -/
import Derived.Test.YtfgpgmfajjakpaaDoorW0
import Derived.Test.YtfgpgmfajjakpaaDoorRefOrd
namespace Go.Proofs.YtfgpgmfajjakpaaDoor.U
open Go.RowKit
set_option linter.unusedVariables false

theorem fit_of {w : World} {A : Option Addr} {n c : Nat} {l : List Int} (h : Came .i32 w A n c l) : Fit l := fun x hx => by
  have := bounds_i32 (h.2.2.2.2 x hx)
  omega
theorem Rd.cells {w : World} {B g off : Nat} {l : List Int} (h : Rd w B .i32 (some ⟨g, off, none⟩) l) {i : Nat} {x : Int} (hx : l[i]? = some x) (n : Nat) (os : Array Obj) : (Sort.grow (w.drewN n) os).cell? ⟨g, off + i, none⟩ = some (.int .i32 x) :=
  (h.bel (Gr.bel ⟨n, os, rfl⟩)).at hx
theorem plain_is (x : Int) (b : Bool) (w : World) (hb : decide (∀ t ∈ twelve, t.1 ≠ x) = b) : Calls Tryd.prog 13 #[.int .i32 x] w fun e w' => e = .returned (.bool b) ∧ w = w' := by
  by_cases h : ∀ t ∈ twelve, t.1 ≠ x
  · rw [decide_eq_true h] at hb
    subst hb
    have H := Lib.hid (rsplit_no x w h)
    clear h
    go_enter Tryd.func13, Tryd.ntmps13
    go_wp2_with fail
    with_reducible refine H.out.mono ?_
    rintro e w1 ⟨rfl, rfl⟩
    go_wp2
    go_ret
    exact ⟨rfl, rfl⟩
  · rw [decide_eq_false h] at hb
    subst hb
    simp only [Classical.not_forall, Classical.not_not] at h
    obtain ⟨t, ht, rfl⟩ := h
    have H := Lib.hid (rsplit_yes t w ht)
    have hp := twelve_pos ht
    generalize t.1 = x at H ⊢
    generalize t.2.1 = p at H ⊢
    generalize t.2.2.1 = q at H ⊢
    generalize t.2.2.2 = r at H hp ⊢
    have q0 : (r == 0) = false := by simp; omega
    clear ht
    go_enter Tryd.func13, Tryd.ntmps13
    go_wp2_with fail
    with_reducible refine H.out.mono ?_
    rintro e w1 ⟨rfl, rfl⟩
    go_wp2
    go_ret
    exact ⟨rfl, rfl⟩

theorem same_ans (A A' : Option Addr) (n n' c c' : Nat) (q : Int) (w : World) (hS : Sp w) (h : 100 < n ∨ 100 < n') : Calls Tryd.prog 4 #[.slice A n c, .slice A' n' c', .int .u8 q] w (BoolIs w true) := by
  have H := Lib.hid (answers_is w hS)
  clear hS
  by_cases h1 : 100 < n
  · have q1 : (100 : Int) < (n : Int) := by omega
    go_enter Tryd.func4, Tryd.ntmps4
    go_wp2_with fail
    with_reducible refine H.out.mono ?_
    rintro e w1 ⟨rfl, h1⟩
    go_wp2
    go_ret
    exact ⟨rfl, h1⟩
  · have q1 : ¬ (100 : Int) < (n : Int) := by omega
    have q2 : (100 : Int) < (n' : Int) := by omega
    go_enter Tryd.func4, Tryd.ntmps4
    go_wp2_with fail
    with_reducible refine H.out.mono ?_
    rintro e w1 ⟨rfl, h1⟩
    go_wp2
    go_ret
    exact ⟨rfl, h1⟩

/-- Two marks of unlike classes, neither split, change about: it is the same text. -/
theorem swap_ord {P T d : List Int} {u v : Int} (hu : 0 < cls u) (hv : 0 < cls v) (hne : cls u ≠ cls v) (pu : ∀ t ∈ twelve, t.1 ≠ u) (pv : ∀ t ∈ twelve, t.1 ≠ v) (h : Ord (apL (P ++ u :: ([] ++ v :: T))) d) : Ord (apL (P ++ v :: ([] ++ u :: T))) d := by
  have fu := mark_free hu pu
  have fv := mark_free hv pv
  have e1 : apL (P ++ u :: ([] ++ v :: T)) = apL P ++ u :: v :: apL T := by rw [List.nil_append, apL_append, apL_cons, apL_cons, ap_free fu, ap_free fv]; rfl
  have e2 : apL (P ++ v :: ([] ++ u :: T)) = apL P ++ v :: u :: apL T := by rw [List.nil_append, apL_append, apL_cons, apL_cons, ap_free fu, ap_free fv]; rfl
  rw [e1] at h
  rw [e2]
  exact h.of_st (St.swap (apL P) (apL T) hu hv hne)

set_option maxRecDepth 1000000 in
set_option maxHeartbeats 4000000 in
theorem walk_same (A A' : Option Addr) (n n' c c' : Nat) (l l' : List Int) (at_ : Int) (w : World) (hS : Sp w) (h : Came .i32 w A n c l) (h' : Came .i32 w A' n' c' l') (hat : 0 ≤ at_ ∧ at_ < 256) :
    Calls Tryd.prog 4 #[.slice A n c, .slice A' n' c', .int .u8 at_] w (BoolIs w true) := by
  by_cases hn : 100 < n ∨ 100 < n'
  · exact same_ans A A' n n' c c' at_ w hS hn
  obtain ⟨i0, hi0, hz0, hz1, hz2⟩ := info_parts info21
  have hmix := mixed
  have HF := Lib.hid (fit_of h)
  obtain ⟨hl, hc, hrd, hnil, _⟩ := h
  obtain ⟨hl', _, hrd', _, _⟩ := h'
  have n1 : n ≤ 100 := by omega
  have n2 : n' ≤ 100 := by omega
  have q1 : ¬ (100 : Int) < (n : Int) := by omega
  have q2 : ¬ (100 : Int) < (n' : Int) := by omega
  obtain ⟨da, hO⟩ := ord_ex (apL l)
  obtain ⟨db, hO'⟩ := ord_ex (apL l')
  obtain ⟨ma, hma⟩ : ∃ m, (nfc da).length = m := ⟨_, rfl⟩
  obtain ⟨mb, hmb⟩ : ∃ m, (nfc db).length = m := ⟨_, rfl⟩
  have hma3 : ma ≤ 300 := by
    have h1 := hO.1.length
    have h2 := apL_max l
    have h3 := nfc_len da
    omega
  obtain ⟨s, hs⟩ : ∃ s, decide (nfc da = nfc db) = s := ⟨_, rfl⟩
  have hs1 : decide (da = db) = s := by
    rw [← hs, Bool.eq_iff_iff]
    simp only [decide_eq_true_eq]
    exact (nfc_inj hO hO').symm
  have hs2 : decide (db = da) = s := by
    rw [← hs1, Bool.eq_iff_iff]
    simp only [decide_eq_true_eq]
    exact eq_comm
  have HCa : Hid (Calls Tryd.prog 7 #[.slice A n c] w (OwnIs w (nfc da) ma)) := Lib.hid (nfc_as A n c _ l da _ ma w hrd hl (by omega) hS hO rfl hma)
  have HCb : Hid (∀ w', Bel w w' → Calls Tryd.prog 7 #[.slice A' n' c'] w' (OwnIs w' (nfc db) mb)) := Lib.hid fun w' h => nfc_as A' n' c' _ l' db _ mb w' (hrd'.bel h) hl' (by omega) (hS.by h) hO' rfl hmb
  have HE : Hid (∀ w' B1 B2 A1 A2 c1 c2, Rd w' B1 .i32 A1 (nfc da) → Rd w' B2 .i32 A2 (nfc db) → Calls Tryd.prog 9 #[.slice A1 ma c1, .slice A2 mb c2] w' (BoolIs w' s)) := Lib.hid fun w' B1 B2 A1 A2 c1 c2 h1 h2 => runes_b A1 A2 ma mb c1 c2 _ _ _ _ s w' h1 h2 hma hmb (by omega) hs
  have HA : Hid (∀ w', Bel w w' → Calls Tryd.prog 6 #[] w' (BoolIs w' true)) := Lib.hid fun w' h => answers_is w' (hS.by h)
  have HS1 : Hid (∀ w', Bel w w' → Calls Tryd.prog 11 #[.slice A n c, .slice A' n' c'] w' (BoolIs w' s)) := Lib.hid fun w' h => same_is A A' n n' c c' _ _ l l' da db s w' (hrd.bel h) hl (by omega) (hrd'.bel h) hl' (by omega) (hS.by h) hO hO' hs1
  have HS2 : Hid (∀ w', Bel w w' → Calls Tryd.prog 11 #[.slice A' n' c', .slice A n c] w' (BoolIs w' s)) := Lib.hid fun w' h => same_is A' A n' n c' c _ _ l' l db da s w' (hrd'.bel h) hl' (by omega) (hrd.bel h) hl (by omega) (hS.by h) hO' hO hs2
  have HS := Lib.hid hS
  have HL := Lib.hid hl
  have HR := Lib.hid hrd
  have HNIL := Lib.hid hnil
  have HO := Lib.hid hO
  have e1 : (s != s) = false := by cases s <;> rfl
  clear hl hrd hnil hS hn hl' hrd' hO hO' hma hmb hma3 hs hs1 hs2
  go_enter Tryd.func4, Tryd.ntmps4
  have H1 := Lib.hid (HCa.out)
  go_wp2_with fail
  with_reducible refine H1.out.mono ?_
  rintro e w1 ⟨Aa, ca, rfl, _, _, Ra_1, _, h1⟩
  have b1 := Lib.hid h1
  clear h1 H1
  have H2 := Lib.hid (HCb.out w1 b1.out)
  go_wp2_with fail
  with_reducible refine H2.out.mono ?_
  rintro e w2 ⟨Ab, cb, rfl, _, _, Rb_2, _, h2⟩
  have b2 := Lib.hid (b1.out.trans h2)
  have Ra_2 := Lib.hid (Ra_1.out.bel h2)
  clear h2 H2 Ra_1
  have H3 := Lib.hid (HE.out w2 _ _ Aa Ab ca cb Ra_2.out Rb_2.out)
  go_wp2_with fail
  with_reducible refine H3.out.mono ?_
  rintro e w3 ⟨rfl, h3⟩
  have b3 := Lib.hid (b2.out.trans h3)
  clear h3 H3
  have H4 := Lib.hid (HA.out w3 b3.out)
  go_wp2_with fail
  with_reducible refine H4.out.mono ?_
  rintro e w4 ⟨rfl, h4⟩
  have b4 := Lib.hid (b3.out.trans h4)
  clear h4 H4
  have H5 := Lib.hid (HS1.out w4 b4.out)
  go_wp2_with fail
  with_reducible refine H5.out.mono ?_
  rintro e w5 ⟨rfl, h5⟩
  have b5 := Lib.hid (b4.out.trans h5)
  clear h5 H5
  have H6 := Lib.hid (HS2.out w5 b5.out)
  go_wp2_with fail
  with_reducible refine H6.out.mono ?_
  rintro e w6 ⟨rfl, h6⟩
  have b6 := Lib.hid (b5.out.trans h6)
  clear h6 H6
  clear HCa HCb HE HS1 HS2 Ra_2 Rb_2
  by_cases hn2 : n < 2
  · have q3 : (n : Int) < 2 := by omega
    go_wp2
    go_ret
    exact ⟨rfl, b6.out⟩
  have q3 : ¬ (n : Int) < 2 := by omega
  obtain ⟨k, hk0, hk⟩ : ∃ k : Nat, at_ % ((n : Int) - 1) = (k : Int) ∧ k + 1 < n := by
    have h1 := Int.emod_nonneg at_ (b := (n : Int) - 1) (by omega)
    have h2 := Int.emod_lt_of_pos at_ (b := (n : Int) - 1) (by omega)
    exact ⟨(at_ % ((n : Int) - 1)).toNat, by omega, by omega⟩
  have hk1' : at_.tmod ((n : Int) - 1) = (k : Int) := by rw [Int.tmod_eq_emod_of_nonneg hat.1]; exact hk0
  obtain ⟨hat0, hat1⟩ := hat
  have hw1 : IntKind.i64.wrap at_ = at_ := by rw [IntKind.wrap_i64]; omega
  have hw2 : IntKind.i64.wrap ((n : Int) - 1) = (n : Int) - 1 := by rw [IntKind.wrap_i64]; omega
  have hw3 : IntKind.i64.wrap (k : Int) = (k : Int) := by rw [IntKind.wrap_i64]; omega
  have hz : ((n : Int) - 1 == 0) = false := by simp; omega
  have hz' : ¬ ((n : Int) - 1 = 0) := by omega
  go_wp2
  clear hw1 hw2 hw3 hz hz' hk0 hk1' hat0 hat1
  obtain ⟨k1, hk1⟩ : ∃ k1, k + 1 = k1 := ⟨_, rfl⟩
  obtain ⟨u, hu⟩ : ∃ u, l[k]? = some u := ⟨l[k]'(by rw [HL.out]; omega), by simp⟩
  obtain ⟨v, hv⟩ : ∃ v, l[k1]? = some v := ⟨l[k1]'(by rw [HL.out]; omega), by simp⟩
  have hrk := HR.out.bel b6.out
  obtain ⟨g, off, rfl, _, _⟩ := hrk.isSome (by rw [HL.out]; omega)
  have la := hrk.cells hu
  have lb := hrk.cells hv
  have fu := HF.out u (List.mem_of_getElem? hu)
  have fv := HF.out v (List.mem_of_getElem? hv)
  obtain ⟨cu, hcu⟩ : ∃ c, cls u = c := ⟨_, rfl⟩
  obtain ⟨cv, hcv⟩ : ∃ c, cls v = c := ⟨_, rfl⟩
  have ha := rclass_at u cu w6 fu hcu
  have hb' := rclass_at v cv w6 fv hcv
  have ea : ((k : Int) + 1).toNat = k1 := by omega
  have pa : (0 : Int) ≤ (k : Int) + 1 := by omega
  have ba : (k : Int) + 1 < (n : Int) := by omega
  have ra : IntKind.i64.wrap ((k : Int) + 1) = (k : Int) + 1 := by rw [IntKind.wrap_i64]; omega
  have pc : (0 : Int) ≤ (k : Int) := by omega
  have bc : (k : Int) < (n : Int) := by omega
  have HU := Lib.hid hu
  have HV := Lib.hid hv
  have HCU := Lib.hid hcu
  have HCV := Lib.hid hcv
  have HK1 := Lib.hid hk1
  clear hu hv hrk fu fv hcu hcv hk1
  go_quiet_grown (first | (go_at_call_of 12 u; with_reducible refine Calls.grown_of (ha _ _)) | (go_at_call_of 12 v; with_reducible refine Calls.grown_of (hb' _ _)))
  have B7 : Hid (Bel w (Sort.grow (w6.drewN nq) osq)) := Lib.hid (b6.out.trans (Gr.bel ⟨nq, osq, rfl⟩))
  clear la lb ha hb'
  generalize Sort.grow (w6.drewN nq) osq = w7 at B7 ⊢
  have HR7 := Lib.hid (HR.out.bel B7.out)
  go_wp2_with (first
    | (at_builtin; refine wpl_append (by rfl) (.tmp 62) (.tmp 63) 22 rfl Tryd.underlying22 hi0 hz0 hz1 hz2 rfl (by omega) (Own.empty_at (w := w7) 21 .i32 rfl) rfl (HR7.out.alloc (.cells #[] 21)) rfl HL.out HNIL.out (by simp; omega) (by simp) ?_; intro v8 w8 hown8 hb8; rw [List.nil_append] at hown8; have h78 : Bel w7 w8 := Below.trans ((Bel.refl w7).alloc _) hb8)
    | fail)
  clear hb8 HR7
  obtain ⟨g8, cap8, rfl, hcap8, hin⟩ := In.start hown8 (fun e => by have := HL.out; rw [e] at this; simp at this; omega) (HS.out.by (B7.out.trans h78)) (HS.out.by B7.out).size h78.size
  rw [HL.out] at hcap8 hown8 ⊢
  obtain ⟨base, hbase⟩ : ∃ base, w7.heap.size = base := ⟨_, rfl⟩
  rw [hbase] at hin hown8
  have HBASE := Lib.hid hbase
  have HOWN8 := Lib.hid hown8
  have H78 := Lib.hid h78
  obtain ⟨P, hP⟩ : ∃ P, l.take k = P := ⟨_, rfl⟩
  obtain ⟨T, hT⟩ : ∃ T, l.drop (k + 2) = T := ⟨_, rfl⟩
  have hPl : P.length = k := by rw [← hP, List.length_take, HL.out]; omega
  have hJ : k + 1 + ([] : List Int).length = k1 := by have h1 := HK1.out; simp; omega
  have hl1 : l = P ++ u :: ([] ++ v :: T) := by rw [← hP, ← hT]; exact cut_pair HU.out (by have := HV.out; rwa [← HK1.out] at this)
  rw [hl1] at hin
  have HL1 := Lib.hid hl1
  have g1 := at_mid P u ([] ++ v :: T) hPl
  have g2 := at_mid2 P u [] v T hPl hJ
  have hne : k ≠ k1 := by have h1 := HK1.out; omega
  have c1 := hin.cell g1
  have c2 := hin.cell g2
  have f1 := hin.free g1
  have f2 := hin.free g2
  have c3 := hin.c2 g2 hne (.int .i32 v)
  have S3 : Hid (In base w8 g8 0 (P ++ v :: ([] ++ u :: T)) ((w8.setCell ⟨g8, 0 + k, none⟩ (.int .i32 v)).setCell ⟨g8, 0 + k1, none⟩ (.int .i32 u)).drew) := Lib.hid (hin.swap g1 g2 hne (swap_mid P u v [] T hPl hJ))
  simp only [Nat.zero_add] at c1 c2 f1 f2 c3 S3
  clear hin hP hT hPl hJ hl1 g1 g2 hne hown8 hbase h78
  go_region
  clear c1 c2 c3 f1 f2
  generalize ((w8.setCell ⟨g8, k, none⟩ (.int .i32 v)).setCell ⟨g8, k1, none⟩ (.int .i32 u)).drew = w9 at S3 ⊢
  have hlen : (P ++ v :: ([] ++ u :: T)).length = n := by rw [← HL.out]; conv => rhs; rw [HL1.out]
                                                          simp
  have hown9 := In.own HOWN8.out S3.out (by rw [hlen, HL.out])
  obtain ⟨A9, cap9, he9, _, hrd9, _⟩ := hown9.rdn hlen
  simp only [Value.slice.injEq] at he9
  obtain ⟨rfl, _, rfl⟩ := he9
  have hB9 : Bel w w9 := B7.out.trans' (Below.mono (Below.trans H78.out (by rw [HBASE.out]; exact S3.out.1)) B7.out.size)
  have HB9 := Lib.hid hB9
  have HR9 := Lib.hid (HR.out.bel hB9)
  have hcu9 := HR9.out.at HU.out
  have hcv9 := HR9.out.at HV.out
  obtain ⟨pu, hpu⟩ : ∃ b, decide (∀ t ∈ twelve, t.1 ≠ u) = b := ⟨_, rfl⟩
  obtain ⟨pv, hpv⟩ : ∃ b, decide (∀ t ∈ twelve, t.1 ≠ v) = b := ⟨_, rfl⟩
  have HPU := Lib.hid (fun w => plain_is u pu w hpu)
  have HPV := Lib.hid (fun w => plain_is v pv w hpv)
  have HSM : Hid (0 < cu → 0 < cv → cu ≠ cv → pu = true → pv = true → Calls Tryd.prog 11 #[.slice (some ⟨g, off, none⟩) n c, .slice (some ⟨g8, 0, none⟩) n cap8] w9 (BoolIs w9 true)) := Lib.hid fun a1 a2 a3 a4 a5 => by
    subst a4 a5
    have hO2 := HO.out
    rw [HL1.out] at hO2
    exact same_is _ _ n n c cap8 _ _ l _ da da true w9 HR9.out HL.out (by omega) hrd9 hlen (by omega) (HS.out.by hB9) HO.out (swap_ord (by rw [HCU.out]; exact a1) (by rw [HCV.out]; exact a2) (by rw [HCU.out, HCV.out]; exact a3) (of_decide_eq_true hpu) (of_decide_eq_true hpv) hO2) (by simp)
  have hnu := cls_nn u
  have hnv := cls_nn v
  rw [HCU.out] at hnu
  rw [HCV.out] at hnv
  clear S3 hlen hown9 hrd9 hB9 hpu hpv HOWN8 H78 HBASE HR HA
  by_cases h1 : 0 < cu
  · by_cases h2 : 0 < cv
    · by_cases h3 : cu = cv
      · subst h3
        have q5 : (cu != cu) = false := by simp
        go_wp2
        go_ret
        exact ⟨rfl, HB9.out⟩
      · have q5 : (cu != cv) = true := by simpa using h3
        cases pu with
        | false =>
          go_wp2_with fail
          with_reducible refine (HPU.out _).mono ?_
          rintro e w10 ⟨rfl, rfl⟩
          go_wp2
          go_ret
          exact ⟨rfl, HB9.out⟩
        | true =>
          cases pv with
          | false =>
            go_wp2_with fail
            with_reducible refine (HPU.out _).mono ?_
            rintro e w10 ⟨rfl, rfl⟩
            go_wp2_with fail
            with_reducible refine (HPV.out _).mono ?_
            rintro e w11 ⟨rfl, rfl⟩
            go_wp2
            go_ret
            exact ⟨rfl, HB9.out⟩
          | true =>
            have HX := Lib.hid (HSM.out h1 h2 h3 rfl rfl)
            clear HSM
            go_wp2_with fail
            with_reducible refine (HPU.out _).mono ?_
            rintro e w10 ⟨rfl, rfl⟩
            go_wp2_with fail
            with_reducible refine (HPV.out _).mono ?_
            rintro e w11 ⟨rfl, rfl⟩
            go_wp2_with fail
            with_reducible refine HX.out.mono ?_
            rintro e w12 ⟨rfl, h12⟩
            have HF9 := Lib.hid (HB9.out.trans h12)
            go_wp2
            go_ret
            exact ⟨rfl, HF9.out⟩
    · obtain rfl : cv = 0 := by omega
      go_wp2
      go_ret
      exact ⟨rfl, HB9.out⟩
  · obtain rfl : cu = 0 := by omega
    go_wp2
    go_ret
    exact ⟨rfl, HB9.out⟩
end Go.Proofs.YtfgpgmfajjakpaaDoor.U
