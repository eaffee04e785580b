/- What sort.Find and the table's own find answer. -/
import Derived.Test.YtfgpgmfajjakpaaDoorSide
import Derived.Shelf.Abstract
namespace Go.Proofs.YtfgpgmfajjakpaaDoor.U
open Go.RowKit
set_option linter.unusedVariables false
attribute [local go_sem ↓] Go.wp_at_zero Go.wp_at_succ

theorem sgn_pos {k x : Int} : 0 < sgn k x ↔ x < k := by
  unfold sgn
  by_cases h1 : k < x
  · rw [if_pos h1]; omega
  · rw [if_neg h1]
    by_cases h2 : x < k
    · rw [if_pos h2]; omega
    · rw [if_neg h2]; omega
theorem sgn_zero {k x : Int} : sgn k x = 0 ↔ x = k := by
  unfold sgn
  by_cases h1 : k < x
  · rw [if_pos h1]; omega
  · rw [if_neg h1]
    by_cases h2 : x < k
    · rw [if_pos h2]; omega
    · rw [if_neg h2]; omega

/-! sort.Find, of a test that only draws and makes. -/
def SFPost (w : World) (n : Nat) (p : Nat → Int) (e : Ending) (w' : World) : Prop :=
  ∃ (i : Nat) (f : Bool), e = .returned (.tuple #[.int .i64 i, .bool f]) ∧ i ≤ n ∧ Hid (((∀ t, t < i → 0 < p t) ∧ ∀ t, i ≤ t → t < n → p t ≤ 0) ∧ (f = true ↔ i < n ∧ p i = 0)) ∧ Bel w w'
def SFRel (w : World) (n : Nat) (p : Nat → Int) (lo hi : Value) (w' : World) : Prop :=
  ∃ a b : Nat, lo = .int .i64 a ∧ hi = .int .i64 b ∧ a ≤ b ∧ b ≤ n ∧ Hid ((∀ t, t < a → 0 < p t) ∧ ∀ t, b ≤ t → t < n → p t ≤ 0) ∧ Bel w w'

set_option maxHeartbeats 4000000 in
theorem sfind_any (g : Nat) (cb : Array Value) (n : Nat) (p : Nat → Int) (w : World) (eg : ∀ args w, (callFunc g args).run Tryd.prog w = .ok (.enter g args) w) (hn : n < 1000)
    (hf : ∀ (w' : World) (i : Nat), i < n → Bel w w' → Calls Tryd.prog g (#[.int .i64 i] ++ cb) w' fun e w'' => e = .returned (.int .i64 (p i)) ∧ Bel w' w'')
    (hmono : ∀ a b, a ≤ b → b < n → 0 < p b → 0 < p a) :
    Calls Tryd.prog 55 #[.int .i64 n, .func (.func g) #[] cb] w (SFPost w n p) := by
  have HF := Lib.hid hf
  have HM := Lib.hid hmono
  clear hf hmono
  go_enter Tryd.func55, Tryd.ntmps55
  go_wp2
  go_loopw [4, 6] (fun lo hi wr => SFRel w n p lo hi wr) (fun lo hi _ => (intOf hi).toNat - (intOf lo).toNat)
  case atStart => exact ⟨0, n, rfl, rfl, Nat.zero_le _, Nat.le_refl _, Lib.hid ⟨fun t ht => by omega, fun t h1 h2 => by omega⟩, Bel.refl _⟩
  case round =>
    obtain ⟨a, b, rfl, rfl, hab, hbn, HI, hbw⟩ := hrel
    by_cases hlt : a < b
    · obtain ⟨m, hm⟩ : ∃ m, m = (a + b) / 2 := ⟨_, rfl⟩
      have hc := HF.out wr m (by omega) hbw
      have em : ((a : Int) + (b : Int)) / 2 = (m : Int) := by omega
      have h1 : a ≤ m := by omega
      have h2 : m < b := by omega
      clear hm
      obtain ⟨v, hv⟩ : ∃ v, p m = v := ⟨_, rfl⟩
      rw [hv] at hc
      have HV := Lib.hid hv
      clear hv
      by_cases hp : 0 < v
      · go_wp2_with (go_at_fn g; refine hc.mono ?_; rintro e w' ⟨rfl, hb1⟩)
        go_roundw
        case rel =>
          refine ⟨m + 1, b, by go_num, rfl, by omega, hbn, Lib.hid ⟨fun t ht => ?_, HI.out.2⟩, hbw.trans hb1⟩
          exact HM.out t m (by omega) (by omega) (by rw [HV.out]; exact hp)
        case measure => simp [intOf]; omega
      · have hp' : v ≤ 0 := by omega
        clear hp
        go_wp2_with (go_at_fn g; refine hc.mono ?_; rintro e w' ⟨rfl, hb1⟩)
        go_roundw
        case rel =>
          refine ⟨a, m, rfl, by go_num, by omega, by omega, Lib.hid ⟨HI.out.1, fun t ht htn => Int.not_lt.1 fun h => ?_⟩, hbw.trans hb1⟩
          have := HM.out m t ht htn h
          rw [HV.out] at this
          omega
        case measure => simp [intOf]; omega
    · obtain rfl : b = a := by omega
      by_cases hn2 : b < n
      · have hc := HF.out wr b hn2 hbw
        obtain ⟨v, hv⟩ : ∃ v, p b = v := ⟨_, rfl⟩
        rw [hv] at hc
        have HV := Lib.hid hv
        clear hv
        go_wp2_with (go_at_fn g; refine hc.mono ?_; rintro e w' ⟨rfl, hb1⟩)
        go_ret2
        exact ⟨b, v == 0, rfl, hbn, Lib.hid ⟨HI.out, by rw [HV.out]; simp [hn2]⟩, hbw.trans hb1⟩
      · go_wp2
        go_ret2
        exact ⟨b, false, rfl, hbn, Lib.hid ⟨HI.out, by simp [hn2]⟩, hbw⟩

/-! The function that find hands over. -/
set_option maxHeartbeats 2000000 in
theorem probe_is (g : Nat) (cb : Array Value) (b1 b2 : Nat) (S : ByteArray) (n i : Nat) (v : Int) (w : World) (eg : ∀ args w, (callFunc g args).run Tryd.prog w = .ok (.enter g args) w)
    (h1 : w.cell? ⟨b1, 0, none⟩ = some (.func (.func g) #[] cb)) (h2 : w.cell? ⟨b2, 0, none⟩ = some (.string S)) (hS : S.size = n * 15) (hi : i < n) (hn : n < 1000)
    (hs : ∀ w' : World, Bel w w' → Calls Tryd.prog g (#[.string (S.extract (i * 15) (i * 15 + 15))] ++ cb) w' (IntIs w' v)) :
    Calls Tryd.prog 57 #[.int .i64 i, .pointer (some ⟨b1, 0, none⟩), .pointer (some ⟨b2, 0, none⟩)] w (IntIs w v) := by
  have HA := Lib.hid (fun w => at_is S n i w hS hi hn)
  generalize S.extract (i * 15) (i * 15 + 15) = L at HA hs
  have HT : Hid (w.cell? ⟨b1, 0, none⟩ = some (.func (.func g) #[] cb) ∧ w.cell? ⟨b2, 0, none⟩ = some (.string S)) := Lib.hid ⟨h1, h2⟩
  have HS := Lib.hid (hs w.drew (Bel.refl w).drew)
  clear hs hS h1 h2
  go_enter Tryd.func57, Tryd.ntmps57
  go_wp2
  go_region_held3 (fun w' => (w'.cell? ⟨b1, 0, none⟩ = some (.func (.func g) #[] cb) ∧ w'.cell? ⟨b2, 0, none⟩ = some (.string S)))
    (first | assumption | exact HT.out | exact ⟨cell_bel (by assumption : _ ∧ _).1 (by assumption), cell_bel (by assumption : _ ∧ _).2 (by assumption)⟩)
    (first | (go_at_call 58; refine (HA.out _).mono ?_; rintro e w1 ⟨rfl, rfl⟩) | (go_at_fn g; refine HS.out.mono ?_; rintro e w2 ⟨rfl, hb2⟩))
  all_goals go_wp2
  all_goals go_ret
  all_goals exact ⟨rfl, ((Bel.refl w).drew).trans hb2⟩

theorem enters57 : ∀ (args : Array Value) (w : World), (callFunc 57 args).run Tryd.prog w = .ok (.enter 57 args) w := enters_of Tryd.func57 (by kernel_rfl) rfl
theorem enters49 : ∀ (args : Array Value) (w : World), (callFunc 49 args).run Tryd.prog w = .ok (.enter 49 args) w := enters_of Tryd.func49 (by kernel_rfl) rfl

/-- A table is sought: the line, or none. -/
def FindPost (w : World) (S : ByteArray) (rows : List Row3) (key : Row3 → Int) (k : Int) (e : Ending) (w' : World) : Prop :=
  ∃ (L : ByteArray) (ok : Bool), e = .returned (.tuple #[.string L, .bool ok]) ∧ Hid ((ok = true ∧ ∃ t, t ∈ rows ∧ key t = k ∧ Ln L t) ∨ (ok = false ∧ ∀ t ∈ rows, key t ≠ k)) ∧ Bel w w'

def pOf (rows : List Row3) (key : Row3 → Int) (k : Int) (i : Nat) : Int := match rows[i]? with | some t => sgn k (key t) | none => 0
theorem pOf_is {rows : List Row3} {key : Row3 → Int} {k : Int} {i : Nat} {t : Row3} (h : rows[i]? = some t) : pOf rows key k i = sgn k (key t) := by unfold pOf; rw [h]
theorem pOf_mono {rows : List Row3} {key : Row3 → Int} {k : Int} (hup : up (rows.map key) = true) {a b : Nat} (hab : a ≤ b) (hb : b < rows.length) (h : 0 < pOf rows key k b) : 0 < pOf rows key k a := by
  rcases Nat.lt_or_eq_of_le hab with hlt | rfl
  · have ha : a < rows.length := by omega
    have e1 : rows[a]? = some rows[a] := by simp
    have e2 : rows[b]? = some rows[b] := by simp
    rw [pOf_is e2, sgn_pos] at h
    rw [pOf_is e1, sgn_pos]
    have := up_lt _ hup a b (key rows[a]) (key rows[b]) (by rw [List.getElem?_map, e1]; rfl) (by rw [List.getElem?_map, e2]; rfl) hlt
    omega
  · exact h
/-- What the search by halves has found. -/
theorem found_is {rows : List Row3} {key : Row3 → Int} {k : Int} {i n : Nat} {f : Bool} (hn : rows.length = n)
    (h : ((∀ t, t < i → 0 < pOf rows key k t) ∧ ∀ t, i ≤ t → t < n → pOf rows key k t ≤ 0) ∧ (f = true ↔ i < n ∧ pOf rows key k i = 0)) (hup : up (rows.map key) = true) :
    (f = true ∧ i < n ∧ ∃ t, rows[i]? = some t ∧ key t = k) ∨ (f = false ∧ ∀ t ∈ rows, key t ≠ k) := by
  obtain ⟨⟨h1, h2⟩, h3⟩ := h
  cases hf : f with
  | true =>
    left
    obtain ⟨hi, hp⟩ := h3.1 hf
    have e1 : rows[i]? = some (rows[i]'(by omega)) := by simp
    refine ⟨rfl, hi, _, e1, ?_⟩
    rw [pOf_is e1, sgn_zero] at hp
    exact hp
  | false =>
    right
    refine ⟨rfl, fun t ht hk => ?_⟩
    obtain ⟨j, hj⟩ := List.getElem?_of_mem ht
    have hjn : j < n := by rw [← hn]; exact (List.getElem?_eq_some_iff.1 hj).1
    have hpj : pOf rows key k j = 0 := by rw [pOf_is hj, sgn_zero]; exact hk
    rcases Nat.lt_trichotomy j i with hlt | rfl | hgt
    · have := h1 j hlt
      omega
    · have := h3.2 ⟨hjn, hpj⟩
      rw [hf] at this
      cases this
    · have hin : i < n := by omega
      have e1 : rows[i]? = some (rows[i]'(by omega)) := by simp
      have h4 := h2 i (Nat.le_refl _) hin
      have h5 := up_lt _ hup i j (key (rows[i]'(by omega))) (key t) (by rw [List.getElem?_map, e1]; rfl) (by rw [List.getElem?_map, hj]; rfl) hgt
      have h6 : ¬ 0 < pOf rows key k i := by omega
      rw [pOf_is e1, sgn_pos] at h6
      omega

set_option maxHeartbeats 4000000 in
theorem find_is (S : ByteArray) (rows : List Row3) (n : Nat) (key : Row3 → Int) (k : Int) (g : Nat) (cb : Array Value) (w : World) (hT : Txt S rows) (hn : rows.length = n) (hn1 : n < 1000) (hup : up (rows.map key) = true)
    (eg : ∀ args w, (callFunc g args).run Tryd.prog w = .ok (.enter g args) w)
    (hs : ∀ (w' : World) (L : ByteArray) (t : Row3), t ∈ rows → Ln L t → Bel w w' → Calls Tryd.prog g (#[.string L] ++ cb) w' (IntIs w' (sgn k (key t)))) :
    Calls Tryd.prog 38 #[.string S, .func (.func g) #[] cb] w (FindPost w S rows key k) := by
  have hmf : ∀ (fn : Fn) (first cap : Array Value) (w : World), (Instr.makeFunc fn first cap).run Tryd.prog w = .ok (.func fn first cap) w := fun _ _ _ _ => rfl
  have hS : S.size = n * 15 := by rw [hT.1, hn]
  have hb1 : Bel w (w.alloc (.cells #[.string S] 61)) := (Bel.refl w).alloc _
  have hb2 : Bel w ((w.alloc (.cells #[.string S] 61)).alloc (.cells #[.func (.func g) #[] cb] 65)) := hb1.alloc _
  have c1 : ((w.alloc (.cells #[.string S] 61)).alloc (.cells #[.func (.func g) #[] cb] 65)).cell? ⟨w.heap.size, 0, none⟩ = some (.string S) := cell_bel (cell_box w (.string S) 61) ((Bel.refl _).alloc _)
  have c2 : ((w.alloc (.cells #[.string S] 61)).alloc (.cells #[.func (.func g) #[] cb] 65)).cell? ⟨w.heap.size + 1, 0, none⟩ = some (.func (.func g) #[] cb) := by
    have := cell_box (w.alloc (.cells #[.string S] 61)) (.func (.func g) #[] cb) 65
    rwa [show (w.alloc (.cells #[.string S] 61)).heap.size = w.heap.size + 1 by simp] at this
  have hF := sfind_any 57 #[.pointer (some ⟨w.heap.size + 1, 0, none⟩), .pointer (some ⟨w.heap.size, 0, none⟩)] n (pOf rows key k) _ enters57 hn1 (fun w' i hi hbel => by
    have e1 : rows[i]? = some (rows[i]'(by omega)) := by simp
    rw [pOf_is e1]
    exact probe_is g cb (w.heap.size + 1) w.heap.size S n i _ w' eg (cell_bel c2 hbel) (cell_bel c1 hbel) hS hi hn1 (fun w'' hb => hs w'' _ _ (List.mem_of_getElem? e1) (hT.2 i _ e1) ((hb2.trans hbel).trans hb)))
    (fun a b hab hb h => pOf_mono hup hab (by omega) h)
  have HC := Lib.hid (fun w => count_is S n w hS hn1)
  have HA := Lib.hid (fun i hi w => at_is S n i w hS hi hn1)
  have HF := Lib.hid hF
  have HL := Lib.hid hT.2
  have HN := Lib.hid hn
  have HU := Lib.hid hup
  have HB2 := Lib.hid hb2
  have HC1 := Lib.hid c1
  clear hF hs hT hn hup hb1 hb2 hS c2
  go_enter Tryd.func38, Tryd.ntmps38
  go_wp2_with (go_at_call 56; refine (HC.out _).mono ?_; rintro e w' ⟨rfl, rfl⟩)
  refine HF.out.mono ?_
  rintro e w3 ⟨i, f, rfl, hi, HI, hb3⟩
  have hb4 := HB2.out.trans hb3
  have c3 := cell_bel HC1.out hb3
  rcases found_is HN.out HI.out HU.out with ⟨rfl, hlt, t, ht, hk⟩ | ⟨rfl, hno⟩
  · have HE : Hid (∃ t, t ∈ rows ∧ key t = k ∧ Ln (S.extract (i * 15) (i * 15 + 15)) t) := Lib.hid ⟨t, List.mem_of_getElem? ht, hk, HL.out i t ht⟩
    have hA := HA.out i hlt
    clear ht hk HF HB2 HC1 HI
    go_wp2_with (go_at_call 58; refine (hA _).mono ?_; rintro e w' ⟨rfl, rfl⟩)
    go_ret2
    exact ⟨_, true, rfl, Lib.hid (.inl ⟨rfl, HE.out⟩), hb4⟩
  · have HE := Lib.hid hno
    clear hno HF HB2 HC1 HI
    go_wp2
    go_ret2
    exact ⟨_, false, rfl, Lib.hid (.inr ⟨rfl, HE.out⟩), hb4⟩
end Go.Proofs.YtfgpgmfajjakpaaDoor.U
