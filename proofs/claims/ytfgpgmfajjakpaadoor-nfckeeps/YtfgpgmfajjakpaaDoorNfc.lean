/- What nfc's each, NFC, Is and Same answer. -/
import Derived.Test.YtfgpgmfajjakpaaDoorAddJ
import Derived.Test.YtfgpgmfajjakpaaDoorNfd
import Derived.Test.YtfgpgmfajjakpaaDoorEq
namespace Go.Proofs.YtfgpgmfajjakpaaDoor.U
open Go.RowKit
set_option linter.unusedVariables false

theorem addj_is (B : Nat) (c s : Int) (o : List Int) (v : Value) (w : World) (hs : Jst B w v o s) (hS : Sp w) (hB : 0 < B) (hk : Ok o s) (hn : o.length + 1 ≤ 1099511627776) :
    Calls Tryd.prog 15 #[.pointer (some ⟨B, 0, none⟩), .int .i32 c] w (AddJPost B w v (nxt o s c) (nst o s c)) := by
  unfold nxt nst
  have hcn := cls_nn c
  by_cases hr : rch o s c = true
  · have h1 : s ≠ -1 := fun e => by rw [e] at hr; simp [rch] at hr
    obtain ⟨k, rfl⟩ : ∃ k : Nat, s = (k : Int) := ⟨s.toNat, by unfold Ok at hk; omega⟩
    have hkl : k < o.length := by unfold Ok at hk; omega
    obtain ⟨y, hy⟩ : ∃ y, o[k]? = some y := ⟨o[k], by simp⟩
    have et : ((k : Nat) : Int).toNat = k := by omega
    have hg : o.getD k 0 = y := by rw [List.getD_eq_getElem?_getD, hy]; rfl
    have hj := jn_is y c
    unfold jnd
    rw [et, hg, hr, Bool.true_and]
    cases hjk : jk y c with
    | true =>
      rw [hjk] at hj
      rw [if_pos rfl, if_pos rfl]
      exact addj_join B k c y _ o v w hs hS (by omega) hy hr hj
    | false =>
      rw [hjk] at hj
      rw [if_neg (by simp), if_neg (by simp)]
      by_cases hc : cls c = 0
      · rw [if_pos hc]
        exact addj_yes_start B _ k c y _ o v w hs hS hB rfl hn hy hr hj hc
      · rw [if_neg hc]
        exact addj_yes_mark B _ k c y _ o v w hs hS hB rfl hn hy hr hj (by omega)
  · have hr' : rch o s c = false := by simpa using hr
    unfold jnd
    rw [hr', Bool.false_and, if_neg (by simp), if_neg (by simp)]
    by_cases hc : cls c = 0
    · rw [if_pos hc]
      exact addj_no_start B _ c s o v w hs hS hB hk rfl hn hr' hc
    · rw [if_neg hc]
      exact addj_no_mark B _ c s o v w hs hS hB hk rfl hn hr' (by omega)

def EachRel (B : Nat) (w : World) (v : Value) (d o : List Int) (s : Int) (n : Nat) (i : Value) (w' : World) : Prop :=
  ∃ k : Nat, i = .int .i64 k ∧ k ≤ n ∧ Hid (∃ v', Jst B w' v' (goO (d.take k) o s) (goS (d.take k) o s) ∧ Fr B w v w' v')
set_option maxHeartbeats 2000000 in
theorem each_is (B n cap C : Nat) (A : Option Addr) (d o : List Int) (s : Int) (v : Value) (w : World) (hr : Rd w C .i32 A d) (hl : d.length = n) (hs : Jst B w v o s) (hS : Sp w) (hB : 0 < B) (hk : Ok o s) (hn : o.length + n ≤ 1099511627776)
    (hA1 : ∀ a, A = some a → a.block ≠ B) (hA2 : ∀ a, A = some a → v.ownBlock ≠ some a.block) :
    Calls Tryd.prog 14 #[.slice A n cap, .func (.func 15) #[.pointer (some ⟨B, 0, none⟩)] #[]] w (AddJPost B w v (goO d o s) (goS d o s)) := by
  have HR := Lib.hid hr
  have HL := Lib.hid hl
  have HS := Lib.hid hs
  have HSp := Lib.hid hS
  have HK := Lib.hid hk
  have HA1 := Lib.hid hA1
  have HA2 := Lib.hid hA2
  clear hr hl hs hS hk hA1 hA2
  go_enter Tryd.func14, Tryd.ntmps14
  go_wp2
  go_loopw [8] (fun i wr => EachRel B w v d o s n i wr) (fun i _ => n - (intOf i).toNat)
  case atStart => exact ⟨0, rfl, Nat.zero_le _, Lib.hid ⟨v, HS.out, Fr.refl _ _ _⟩⟩
  case round =>
    obtain ⟨k, rfl, hkn, HI⟩ := hrel
    by_cases hlt : k < n
    · obtain ⟨p, hp⟩ : ∃ p, d[k]? = some p := ⟨d[k]'(by rw [HL.out]; exact hlt), by simp⟩
      obtain ⟨v', hs', hf'⟩ := HI.out
      obtain ⟨g, off, rfl, _, hc⟩ := (hf'.rd HR.out HA1.out HA2.out) k p hp
      have htk : d.take (k + 1) = d.take k ++ [p] := by rw [List.take_add_one, hp]; rfl
      have hbw := hf'.belowJ HS.out
      have hlen : (goO (d.take k) o s).length + 1 ≤ 1099511627776 := by
        have := go_len (d.take k) o s
        rw [List.length_take] at this
        omega
      have HC := Lib.hid (addj_is B p _ _ v' wr hs' (HSp.out.below hbw hB) hB (go_ok _ _ _ HK.out) hlen)
      rw [← (go_snoc p (d.take k) o s).1, ← (go_snoc p (d.take k) o s).2, ← htk] at HC
      have HV : Hid (∀ w' v'', Jst B w' v'' (goO (d.take (k + 1)) o s) (goS (d.take (k + 1)) o s) → Fr B wr v' w' v'' → EachRel B w v d o s n (.int .i64 ((k : Int) + 1)) w') := Lib.hid fun w' v'' h1 h2 =>
        ⟨k + 1, by go_num, by omega, Lib.hid ⟨v'', h1, hf'.trans h2⟩⟩
      have q1 : (0 : Int) ≤ (k : Int) := by omega
      have q2 : (k : Int) < (n : Int) := by omega
      clear hp hs' hf' hbw hlen HI htk
      go_wp2_with fail
      with_reducible refine HC.out.mono ?_
      rintro e w2 ⟨rfl, v'', h1, h2⟩
      have HW := Lib.hid (HV.out w2 v'' h1 h2)
      clear h1 h2 HC HV
      go_wp2
      go_roundw
      case rel => exact HW.out
      case measure => simp [intOf]; omega
    · have hF : Hid (∃ v', Jst B wr v' (goO d o s) (goS d o s) ∧ Fr B w v wr v') := Lib.hid (by
        obtain ⟨v', hs', hf'⟩ := HI.out
        rw [List.take_of_length_le (by rw [HL.out]; omega)] at hs'
        exact ⟨v', hs', hf'⟩)
      have q2 : ¬ (k : Int) < (n : Int) := by omega
      clear HI
      go_wp2
      go_end0
      exact ⟨rfl, hF.out⟩
theorem Bel.trans' {a b c : World} (h : Bel a b) (k : Below a.heap.size b c) : Bel a c := Below.trans h k
set_option maxHeartbeats 2000000 in
theorem nfc_as (A : Option Addr) (n c C : Nat) (l d L : List Int) (m : Nat) (w : World) (hr : Rd w C .i32 A l) (hl : l.length = n) (hn : n ≤ 10000000000) (hS : Sp w) (hO : Ord (apL l) d) (hL : nfc d = L) (hm : L.length = m) :
    Calls Tryd.prog 7 #[.slice A n c] w (OwnIs w L m) := by
  have hmf : ∀ (fn : Fn) (first cap : Array Value) (w : World), (Instr.makeFunc fn first cap).run Tryd.prog w = .ok (.func fn first cap) w := fun _ _ _ _ => rfl
  obtain ⟨k, hk⟩ : ∃ k, d.length = k := ⟨_, rfl⟩
  have hkk : k ≤ 30000000000 := by
    have h1 := hO.1.length
    have h2 := apL_max l
    omega
  have hbw : Bel w (w.alloc (.cells #[.slice none 0 0, .int .i64 (-1)] 33)) := (Bel.refl w).alloc _
  have HN := Lib.hid (nfd_as A n c C l d k (w.alloc (.cells #[.slice none 0 0, .int .i64 (-1)] 33)) (hr.bel hbw) hl hn (hS.by hbw) hO hk)
  have hJ : Jst w.heap.size (w.alloc (.cells #[.slice none 0 0, .int .i64 (-1)] 33)) (.slice none 0 0) [] (-1) := ⟨heap_alloc_new w _, Own.nil _ _ _ _⟩
  have HE : Hid (∀ w1 A' cap', Bel (w.alloc (.cells #[.slice none 0 0, .int .i64 (-1)] 33)) w1 → Rd w1 w1.heap.size .i32 A' d → Own w1 (w.alloc (.cells #[.slice none 0 0, .int .i64 (-1)] 33)).heap.size 21 .i32 (.slice A' k cap') d →
      Calls Tryd.prog 14 #[.slice A' k cap', .func (.func 15) #[.pointer (some ⟨w.heap.size, 0, none⟩)] #[]] w1 fun e w2 => e = .returned (.tuple #[]) ∧ ∃ A2 cap2, w2.cell? ⟨w.heap.size, 0, none⟩ = some (.slice A2 m cap2) ∧ m ≤ cap2 ∧ (A2 = none → cap2 = 0) ∧ Hid (Rd w2 w2.heap.size .i32 A2 L) ∧ Hid (Own w2 w.heap.size 21 .i32 (.slice A2 m cap2) L) ∧ Bel w w2) := Lib.hid fun w1 A' cap' h1 h2 h3 => by
    refine (each_is w.heap.size k cap' _ A' d [] (-1) _ w1 h2 hk (hJ.bel h1) (hS.by (hbw.trans h1)) hS.size (.inl rfl) (by simp; omega) (fun a e => ?_) (fun a e => by simp [Value.ownBlock])).mono ?_
    · subst e
      rcases h3.2 with ⟨h4, _⟩ | ⟨g, cap, cur, h4, h5, _⟩
      · cases h4
      · simp only [Value.slice.injEq, Option.some.injEq] at h4
        rw [h4.1]
        rw [World.size_alloc] at h5
        show g ≠ _
        omega
    · rintro e w2 ⟨rfl, v2, k1, k2⟩
      have hL' : goO d [] (-1) = L := hL
      rw [hL'] at k1
      obtain ⟨A2, cap2, rfl, r1, r2, r3⟩ := k1.2.rdn hm
      exact ⟨rfl, A2, cap2, k1.c0, r1, r3, Lib.hid r2, Lib.hid (k1.2.less (by omega)), (hbw.trans h1).trans' (k2.belowJ (hJ.bel h1))⟩
  clear hr hl hS hO hL hm hk hkk hJ hbw
  go_enter Tryd.func7, Tryd.ntmps7
  go_wp2_with fail
  with_reducible refine HN.out.mono ?_
  rintro e w1 ⟨A', cap', rfl, _, _, H1, H2, hb1⟩
  have HC := Lib.hid (HE.out w1 A' cap' hb1 H1.out H2.out)
  clear HE HN H1 H2 hb1
  go_wp2_with fail
  with_reducible refine HC.out.mono ?_
  rintro e w2 ⟨rfl, A2, cap2, c2, h2, h3, H4, H5, h6⟩
  clear HC
  go_wp2
  go_ret
  exact ⟨A2, cap2, rfl, h2, h3, H4, H5, h6⟩

theorem isfc_is (A : Option Addr) (n c C : Nat) (l d : List Int) (b : Bool) (w : World) (hr : Rd w C .i32 A l) (hl : l.length = n) (hn : n ≤ 10000000000) (hS : Sp w) (hO : Ord (apL l) d) (hb : decide (nfc d = l) = b) :
    Calls Tryd.prog 10 #[.slice A n c] w (BoolIs w b) := by
  obtain ⟨m, hm⟩ : ∃ m, (nfc d).length = m := ⟨_, rfl⟩
  have HN := Lib.hid (nfc_as A n c C l d _ m w hr hl hn hS hO rfl hm)
  have hmm : m ≤ 1099511627776 := by
    have h0 := nfc_len d
    have h1 := hO.1.length
    have h2 := apL_max l
    omega
  have HE : Hid (∀ w' A' cap, Bel w w' → Rd w' w'.heap.size .i32 A' (nfc d) → Calls Tryd.prog 18 #[.slice A' m cap, .slice A n c] w' (Quiet w' b)) := Lib.hid fun w' A' cap h1 h2 => by
    rw [← hb]
    exact equal_any A' A m n cap c (nfc d) l _ C w' h2 (hr.bel h1) hm hl hmm
  clear hr hl hS hO hm hb hmm
  go_enter Tryd.func10, Tryd.ntmps10
  go_wp2_with fail
  with_reducible refine HN.out.mono ?_
  rintro e w1 ⟨A', cap, rfl, _, _, H1, _, hb1⟩
  go_wp2_with fail
  with_reducible refine (HE.out w1 A' cap hb1 H1.out).mono ?_
  rintro e w2 ⟨rfl, q, rfl⟩
  go_wp2
  go_ret
  exact ⟨rfl, hb1.drewN q⟩

theorem same_is (A A' : Option Addr) (n n' c c' C C' : Nat) (l l' d d' : List Int) (b : Bool) (w : World) (hr : Rd w C .i32 A l) (hl : l.length = n) (hn : n ≤ 10000000000) (hr' : Rd w C' .i32 A' l') (hl' : l'.length = n') (hn' : n' ≤ 10000000000) (hS : Sp w) (hO : Ord (apL l) d) (hO' : Ord (apL l') d') (hb : decide (d = d') = b) :
    Calls Tryd.prog 11 #[.slice A n c, .slice A' n' c'] w (BoolIs w b) := by
  obtain ⟨m, hm⟩ : ∃ m, d.length = m := ⟨_, rfl⟩
  obtain ⟨m', hm'⟩ : ∃ m', d'.length = m' := ⟨_, rfl⟩
  have HN := Lib.hid (nfd_as A n c C l d m w hr hl hn hS hO hm)
  have HN' : Hid (∀ w', Bel w w' → Calls Tryd.prog 8 #[.slice A' n' c'] w' (OwnIs w' d' m')) := Lib.hid fun w' h => nfd_as A' n' c' C' l' d' m' w' (hr'.bel h) hl' hn' (hS.by h) hO' hm'
  have hmm : m ≤ 1099511627776 := by
    have h1 := hO.1.length
    have h2 := apL_max l
    omega
  have HE : Hid (∀ w' A1 A2 cap1 cap2 B1, Rd w' B1 .i32 A1 d → Rd w' w'.heap.size .i32 A2 d' → Calls Tryd.prog 18 #[.slice A1 m cap1, .slice A2 m' cap2] w' (Quiet w' b)) := Lib.hid fun w' A1 A2 cap1 cap2 B1 h1 h2 => by
    rw [← hb]
    exact equal_any A1 A2 m m' cap1 cap2 d d' _ _ w' h1 h2 hm hm' hmm
  clear hr hl hr' hl' hS hO hO' hm hm' hb hmm hn hn'
  go_enter Tryd.func11, Tryd.ntmps11
  go_wp2_with fail
  with_reducible refine HN.out.mono ?_
  rintro e w1 ⟨A1, cap1, rfl, _, _, H1, _, hb1⟩
  have HC := Lib.hid (HN'.out w1 hb1)
  go_wp2_with fail
  with_reducible refine HC.out.mono ?_
  rintro e w2 ⟨A2, cap2, rfl, _, _, H2, _, hb2⟩
  have HD := Lib.hid (HE.out w2 A1 A2 cap1 cap2 _ (H1.out.bel hb2) H2.out)
  clear HC HE HN HN'
  go_wp2_with fail
  with_reducible refine HD.out.mono ?_
  rintro e w3 ⟨rfl, q, rfl⟩
  go_wp2
  go_ret
  exact ⟨rfl, (hb1.trans hb2).drewN q⟩

theorem ap_101 : apL [101, 769] = [101, 769] := by
  have h2 : pts 101 = [] := sec_free (List.mem_append_right _ (by simpa using ends_101))
  have h3 : pts 769 = [] := sec_free (List.mem_append_left _ (by simpa using secs_769))
  exact apL_free fun x hx => by
    simp at hx
    rcases hx with rfl | rfl
    · exact h2
    · exact h3
theorem ord_101 : Ord (apL [101, 769]) [101, 769] := by
  have h := ord_233
  rw [ap_233] at h
  rw [ap_101]
  exact h
set_option maxHeartbeats 1000000 in
theorem answers_is (w : World) (hS : Sp w) : Calls Tryd.prog 6 #[] w (BoolIs w true) := by
  have HS := Lib.hid hS
  have H1 := Lib.hid (nfc_as (some ⟨w.heap.size, 0, none⟩) 2 2 _ [101, 769] [101, 769] [233] 1 (w.alloc (.cells #[.int .i32 101, .int .i32 769] 21)) (rd_lit_at rfl rfl) rfl (by omega) (hS.by ((Bel.refl w).alloc _)) ord_101 nfc_233 rfl)
  have H2 : Hid (∀ w', Sp w' → Calls Tryd.prog 11 #[.slice (some ⟨w'.heap.size, 0, none⟩) 1 1, .slice (some ⟨w'.heap.size + 1, 0, none⟩) 2 2] ((w'.alloc (.cells #[.int .i32 233] 21)).alloc (.cells #[.int .i32 101, .int .i32 769] 21)) (BoolIs ((w'.alloc (.cells #[.int .i32 233] 21)).alloc (.cells #[.int .i32 101, .int .i32 769] 21)) true)) := Lib.hid fun w' h =>
    same_is (some ⟨w'.heap.size, 0, none⟩) (some ⟨w'.heap.size + 1, 0, none⟩) 1 2 1 2 _ _ [233] [101, 769] [101, 769] [101, 769] true _ ((rd_lit_at rfl rfl).bel ((Bel.refl _).alloc _)) rfl (by omega) (rd_lit_at (by simp) rfl) rfl (by omega) (h.by (((Bel.refl w').alloc _).alloc _)) ord_233 ord_101 (by decide)
  clear hS
  go_enter Tryd.func6, Tryd.ntmps6
  go_wp2_with fail
  with_reducible refine H1.out.mono ?_
  rintro e w1 ⟨A, cap, rfl, hcap, _, HR, _, hb1⟩
  obtain ⟨g, off, rfl, _, _⟩ := HR.out.isSome (by simp)
  have hc := HR.out.at (i := 0) (x := 233) rfl
  rw [Nat.add_zero] at hc
  have hbw : Bel w w1 := ((Bel.refl w).alloc _).trans hb1
  have H3 := Lib.hid (H2.out w1 (HS.out.by hbw))
  clear HR H1 H2 hb1
  go_wp2_with fail
  with_reducible refine H3.out.mono ?_
  rintro e w2 ⟨rfl, hb2⟩
  go_wp2
  go_ret
  exact ⟨rfl, ((hbw.alloc _).alloc _).trans hb2⟩
end Go.Proofs.YtfgpgmfajjakpaaDoor.U
