/- What nfd.countMarks and nfd.Order answer: a new list, marks side by side sorted by their classes, stable. -/
import Derived.Test.YtfgpgmfajjakpaaDoorStab
import Derived.Test.YtfgpgmfajjakpaaDoorHang
namespace Go.Proofs.YtfgpgmfajjakpaaDoor.U
open Go.RowKit
set_option linter.unusedVariables false

def CountPost (w : World) (l : List Int) (e : Ending) (w' : World) : Prop :=
  ∃ k : Nat, e = .returned (.int .i64 k) ∧ k ≤ l.length ∧ Hid ((∀ i x, i < k → l[i]? = some x → 0 < cls x) ∧ ∀ x, l[k]? = some x → cls x = 0) ∧ Gr w w'
def CountRel (w : World) (l : List Int) (i : Value) (w' : World) : Prop :=
  ∃ k : Nat, i = .int .i64 k ∧ k ≤ l.length ∧ Hid (∀ i x, i < k → l[i]? = some x → 0 < cls x) ∧ Gr w w'

set_option maxHeartbeats 2000000 in
theorem count_marks (A : Option Addr) (n c B : Nat) (l : List Int) (w : World) (hr : Rd w B .i32 A l) (hl : l.length = n) (hn : n ≤ 1099511627776) (hS : Sp w) :
    Calls Tryd.prog 25 #[.slice A n c] w (CountPost w l) := by
  have HR := Lib.hid hr
  have HL := Lib.hid hl
  have HS := Lib.hid hS
  clear hr hl hS
  go_enter Tryd.func25, Tryd.ntmps25
  go_wp2
  go_loopw [3] (fun i wr => CountRel w l i wr) (fun i _ => n - (intOf i).toNat)
  case atStart => exact ⟨0, rfl, Nat.zero_le _, Lib.hid fun i x h => by omega, Gr.refl _⟩
  case round =>
    obtain ⟨k, rfl, hk, HK, hg⟩ := hrel
    rw [HL.out] at hk
    by_cases hlt : k < n
    · obtain ⟨x, hx⟩ : ∃ x, l[k]? = some x := ⟨l[k]'(by rw [HL.out]; exact hlt), by simp⟩
      obtain ⟨g, off, rfl, _, hc⟩ := (HR.out.bel hg.bel) k x hx
      have q0 : (0 : Int) ≤ (k : Int) := by omega
      have q1 : (k : Int) < (n : Int) := by omega
      have HX := Lib.hid hx
      obtain ⟨b, hb⟩ : ∃ b, decide (0 < cls x) = b := ⟨_, rfl⟩
      have HM := Lib.hid (mark_is x b wr (HS.out.bel hg) hb)
      have HB := Lib.hid hb
      clear hx hb
      cases b with
      | true =>
        go_wp2_with (go_at_call 23; (with_reducible refine HM.out.mono ?_); rintro e w1 ⟨rfl, h1⟩)
        go_roundw
        case rel =>
          refine ⟨k + 1, by go_num, by rw [HL.out]; omega, Lib.hid fun i y hi hy => ?_, hg.trans h1⟩
          rcases Nat.lt_or_eq_of_le (Nat.le_of_lt_succ hi) with h | rfl
          · exact HK.out i y h hy
          · obtain rfl := Option.some.inj (HX.out.symm.trans hy)
            exact of_decide_eq_true HB.out
        case measure => simp [intOf]; omega
      | false =>
        go_wp2_with (go_at_call 23; (with_reducible refine HM.out.mono ?_); rintro e w1 ⟨rfl, h1⟩)
        go_ret
        refine ⟨k, rfl, by rw [HL.out]; omega, Lib.hid ⟨HK.out, fun y hy => ?_⟩, hg.trans h1⟩
        obtain rfl := Option.some.inj (HX.out.symm.trans hy)
        have h2 := of_decide_eq_false HB.out
        have h3 := cls_nn x
        omega
    · obtain rfl : k = n := by omega
      have q1 : ¬ (k : Int) < (k : Int) := by omega
      go_wp2
      go_ret
      refine ⟨k, rfl, by rw [HL.out]; omega, Lib.hid ⟨HK.out, fun y hy => ?_⟩, hg⟩
      have := (List.getElem?_eq_some_iff.1 hy).1
      rw [HL.out] at this
      omega

/-! One run after another. -/
theorem ord_run {dO d s s' : List Int} (h : Ord dO d) (hd : ∀ c, d.getLast? = some c → cls c = 0) (t : St s s') (hs : Sd s') : Ord (dO ++ s) (d ++ s') := by
  refine ⟨h.1.append t, fun i x y hx hy hp => ?_⟩
  by_cases h1 : i + 1 < d.length
  · rw [List.getElem?_append_left (by omega)] at hx
    rw [List.getElem?_append_left h1] at hy
    exact h.2 i x y hx hy hp
  · by_cases h2 : i < d.length
    · rw [List.getElem?_append_left h2] at hx
      have := hd x (by rw [List.getLast?_eq_getElem?, show d.length - 1 = i by omega]; exact hx)
      omega
    · rw [List.getElem?_append_right (by omega)] at hx hy
      rw [show i + 1 - d.length = i - d.length + 1 by omega] at hy
      exact hs.srt _ x y hx hy hp
theorem ord_start {dO d : List Int} {c : Int} (h : Ord dO d) (hc : cls c = 0) : Ord (dO ++ [c]) (d ++ [c]) := by
  refine ord_append h (ord_self fun i x y hx hy hp => ?_) (by simpa using hc)
  have := (List.getElem?_eq_some_iff.1 hy).1
  simp at this
theorem ord_nil : Ord [] [] := ord_self Srt.nil
/-- A list of its own, sorted. -/
def OrdPost (w : World) (l : List Int) (e : Ending) (w' : World) : Prop := ∃ v l', e = .returned v ∧ Ord l l' ∧ Own w' w.heap.size 21 .i32 v l' ∧ Bel w w'

def OrdRel (base : Nat) (w1 : World) (g N : Nat) (l : List Int) (i : Value) (w : World) : Prop :=
  ∃ k : Nat, i = .int .i64 k ∧ k ≤ N + 1 ∧ Hid ((k ≤ N ∧ ∃ dO d r, l = dO ++ r ∧ d.length = k ∧ Ord dO d ∧ (∀ c, d.getLast? = some c → cls c = 0) ∧ In base w1 g 0 (d ++ r) w) ∨ (k = N + 1 ∧ ∃ d, Ord l d ∧ In base w1 g 0 d w))

set_option maxRecDepth 100000 in
set_option maxHeartbeats 4000000 in
theorem order_is (A : Option Addr) (n c B : Nat) (l : List Int) (w : World) (hr : Rd w B .i32 A l) (hl : l.length = n) (hnil : A = none → c = 0) (hn : n ≤ 1099511627776) (hS : Sp w) :
    Calls Tryd.prog 17 #[.slice A n c] w (OrdPost w l) := by
  obtain ⟨i0, hi0, hz0, hz1, hz2⟩ := info_parts info21
  have HR := Lib.hid hr
  have HL := Lib.hid hl
  have HS := Lib.hid hS
  have HO := Lib.hid (Own.nil w w.heap.size 21 .i32)
  have HNIL := Lib.hid hnil
  clear hr hl hS hnil
  go_enter Tryd.func17, Tryd.ntmps17
  go_wp2_with (first | (at_builtin; refine wpl_append (by rfl) (.const (.slice none 0 0)) (.tmp 6) 22 rfl Tryd.underlying22 hi0 hz0 hz1 hz2 rfl (by omega) HO.out rfl HR.out rfl HL.out HNIL.out (by simpa using hn) (Nat.le_refl _) ?_; intro v w1 hown hb1) | fail)
  rw [List.nil_append] at hown
  have HB1 := Lib.hid (show Bel w w1 from hb1)
  by_cases hl0 : l = []
  · have hn0 : n = 0 := by rw [← HL.out, hl0]; rfl
    subst hn0
    obtain ⟨A', cap, rfl, _, _, _⟩ := hown.rdn HL.out
    have HOW := Lib.hid hown
    have H0 := Lib.hid hl0
    clear hown hl0 hb1 HO HR HNIL
    go_wp2
    go_loopw [4] (fun i wr => i = .int .i64 0 ∧ wr = w1) (fun i _ => 0)
    case atStart => exact ⟨rfl, rfl⟩
    case round =>
      obtain ⟨rfl, rfl⟩ := hrel
      go_wp2
      go_ret
      exact ⟨_, l, rfl, by rw [H0.out]; exact ord_nil, HOW.out, HB1.out⟩
  · obtain ⟨g, cap, rfl, hcap, hin⟩ := In.start hown hl0 (HS.out.by hb1) HS.out.size hb1.size
    rw [HL.out] at hcap
    have hown' := hown
    rw [HL.out] at hown'
    have HOW := Lib.hid hown'
    have HIN := Lib.hid hin
    have hlen : ((l.length : Nat) : Int) = (n : Int) := by rw [HL.out]
    rw [HL.out]
    clear hown hown' hl0 hb1 HO HR HNIL hin hlen
    obtain ⟨base, hbase⟩ : ∃ base, w.heap.size = base := ⟨_, rfl⟩
    rw [hbase] at HOW HIN
    have HBASE := Lib.hid hbase
    clear hbase
    go_wp2
    go_loopw [4] (fun i wr => OrdRel base w1 g n l i wr) (fun i _ => n + 1 - (intOf i).toNat)
    case atStart => exact ⟨0, rfl, by omega, Lib.hid (.inl ⟨Nat.zero_le _, [], [], l, rfl, rfl, ord_nil, by simp, HIN.out⟩)⟩
    case round =>
      clear HIN
      obtain ⟨k, rfl, hk, HK⟩ := hrel
      by_cases hlt : k < n
      · obtain ⟨dO, d, r, e1, e2, e3, e4, hin⟩ : ∃ dO d r, l = dO ++ r ∧ d.length = k ∧ Ord dO d ∧ (∀ c, d.getLast? = some c → cls c = 0) ∧ In base w1 g 0 (d ++ r) wr := by
          rcases HK.out with ⟨_, h⟩ | ⟨h, _⟩
          · exact h
          · omega
        have hrl : r.length = n - k := by
          have h1 := HL.out
          rw [e1, List.length_append] at h1
          have h2 := e3.1.length
          omega
        obtain ⟨m, hm⟩ : ∃ m, n - k = m := ⟨_, rfl⟩
        have hrd : Rd wr wr.heap.size .i32 (some ⟨g, k, none⟩) r := fun i x hx => by
          refine ⟨g, k, rfl, hin.2.2.2.2.2.2.1, ?_⟩
          have := hin.cell (i := k + i) (x := x) (by rw [List.getElem?_append_right (by omega), show k + i - d.length = i by omega]; exact hx)
          rwa [Nat.zero_add] at this
        have HC := Lib.hid (fun c => count_marks (some ⟨g, k, none⟩) m c wr.heap.size r wr hrd (by omega) (by omega) hin.2.2.1)
        have HIN := Lib.hid hin
        have HE : Hid (l = dO ++ r ∧ d.length = k ∧ Ord dO d ∧ (∀ c, d.getLast? = some c → cls c = 0) ∧ r.length = m) := Lib.hid ⟨e1, e2, e3, e4, by omega⟩
        have q0 : (0 : Int) ≤ (k : Int) := by omega
        have q1 : (k : Int) < (n : Int) := by omega
        have q2 : (k : Int) ≤ (n : Int) := by omega
        have q3 : (n : Int) ≤ (cap : Int) := by omega
        have q4 : n - k = m := hm
        clear e1 e2 e3 e4 hin hrd hrl HK hm
        go_wp2_with fail
        with_reducible refine (HC.out _).mono ?_
        rintro e w2 ⟨t, rfl, ht, HT, hg2⟩
        obtain ⟨s, r', er, ls⟩ := cut_two (X := r) (j := t) ht
        rw [HE.out.2.2.2.2] at ht
        have hMs : Mk s := fun z hz => by
          obtain ⟨j, hj⟩ := List.getElem?_of_mem hz
          have hjl := (List.getElem?_eq_some_iff.1 hj).1
          exact HT.out.1 j z (by omega) (by rw [er, List.getElem?_append_left hjl]; exact hj)
        have hin2 := HIN.out.gr hg2
        rw [er] at hin2
        have hsub := hin2.sub (A := d) (s := s) (B := r') HE.out.2.1
        have HSO := Lib.hid (fun c => sortStable_is base g k c t s w2 w2 hsub hMs ls (by omega))
        have HI2 := Lib.hid hin2
        have HER := Lib.hid er
        have HLS := Lib.hid ls
        have q5 : (0 : Int) ≤ (t : Int) := by omega
        have q6 : (k : Int) ≤ (k : Int) + (t : Int) := by omega
        have q7 : (k : Int) + (t : Int) ≤ (cap : Int) := by omega
        have q8 : k + t - k = t := by omega
        have q9 : k + t ≤ n := by omega
        clear hMs hin2 hsub er ls HC HIN hg2
        go_wp2_with fail
        with_reducible refine (HSO.out _).mono ?_
        rintro e w3 ⟨rfl, s', t1, t2, t3⟩
        have HREL : Hid (OrdRel base w1 g n l (.int .i64 ((k : Int) + ((t : Int) + 1))) w3) := Lib.hid (by
          have hin3 := HI2.out.sup HE.out.2.1 t3 t1.length
          obtain ⟨e1, e2, e3, e4, e5⟩ := HE.out
          have hlen := HER.out
          have hls := HLS.out
          have h5 := ord_run e3 e4 t1 t2
          refine ⟨k + (t + 1), by congr 1, by omega, Lib.hid ?_⟩
          cases hr' : r' with
          | nil =>
            subst hr'
            rw [List.append_nil] at hlen
            refine .inr ⟨by rw [hlen] at e5; omega, d ++ s', ?_, by simpa using hin3⟩
            rw [e1, hlen]; exact h5
          | cons z r2 =>
            subst hr'
            have hz : cls z = 0 := HT.out.2 z (by rw [hlen, List.getElem?_append_right (by omega), hls]; simp)
            have h6 := ord_start h5 hz
            rw [hlen] at e5
            simp only [List.length_append, List.length_cons] at e5
            have h7 := t1.length
            refine .inl ⟨by omega, dO ++ s ++ [z], d ++ s' ++ [z], r2, by rw [e1, hlen]; simp, by simp only [List.length_append, List.length_cons, List.length_nil]; omega, h6, fun c hc => ?_, by simpa using hin3⟩
            simp at hc
            rw [← hc]; exact hz)
        clear t1 t2 t3 HSO HI2 HER HLS HE HT
        go_wp2
        go_roundw
        case rel => exact HREL.out
        case measure => simp [intOf]; omega
      · have q1 : ¬ (k : Int) < (n : Int) := by omega
        have hF : Hid (∃ d, Ord l d ∧ In base w1 g 0 d wr) := Lib.hid (by
          rcases HK.out with ⟨h0, dO, d, r, e1, e2, e3, e4, hin⟩ | ⟨_, h⟩
          · have h1 := HL.out
            rw [e1, List.length_append] at h1
            have h2 := e3.1.length
            obtain rfl : r = [] := List.eq_nil_of_length_eq_zero (by omega)
            rw [List.append_nil] at e1 hin
            exact ⟨d, by rw [e1]; exact e3, hin⟩
          · exact h)
        clear HK
        go_wp2
        go_ret
        obtain ⟨d, h1, h2⟩ := hF.out
        refine ⟨_, d, rfl, h1, ?_, ?_⟩
        · rw [HBASE.out]
          exact In.own HOW.out h2 h1.1.length
        · have h3 := h2.1
          rw [← HBASE.out] at h3
          exact Below.trans HB1.out h3
end Go.Proofs.YtfgpgmfajjakpaaDoor.U
