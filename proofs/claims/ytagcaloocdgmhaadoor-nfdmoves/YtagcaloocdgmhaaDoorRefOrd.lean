/- What the reference's Order answers: the same list as nfd.Order. -/
import Derived.Test.YtagcaloocdgmhaaDoorOrder
import Derived.Test.YtagcaloocdgmhaaDoorRefOf
import Derived.Deep.LoopGhost
namespace Go.Proofs.YtagcaloocdgmhaaDoor.U
open Go.RowKit
set_option linter.unusedVariables false

/-- Characters are 32 bits. -/
def Fit (l : List Int) : Prop := ∀ x ∈ l, -2147483648 ≤ x ∧ x ≤ 2147483647
theorem rclass_at (x c : Int) (w : World) (hf : -2147483648 ≤ x ∧ x ≤ 2147483647) (hc : cls x = c) (n : Nat) (os : Array Obj) :
    Calls Tryd.prog 11 #[.int .i32 x] (Sort.grow (w.drewN n) os) fun e w' => e = .returned (.int .i64 c) ∧ ∃ q os', w' = Sort.grow ((Sort.grow (w.drewN n) os).drewN q) os' :=
  rclass_is x c _ hf hc
theorem Own.empty_at {w : World} {n : Nat} (e : TypeId) (k : IntKind) (h : w.heap.size = n) : Own (w.alloc (.cells #[] e)) n e k (.slice (some ⟨n, 0, none⟩) 0 0) [] := by
  subst h; exact Own.empty w e k

/-- Sorted as far as k. -/
def Upto (t : List Int) (k : Nat) : Prop := ∀ i a b, i < k → t[i]? = some a → t[i + 1]? = some b → 0 < cls b → cls a ≤ cls b
def ROut (base : Nat) (w1 : World) (g : Nat) (l : List Int) (gh : Nat) (b : Value) (w : World) : Prop :=
  ∃ c : Bool, b = .bool c ∧ Hid (∃ t, St l t ∧ (c = false → Srt t) ∧ In base w1 g 0 t w ∧ far t + c.toNat ≤ gh)
def RIn (base : Nat) (w1 : World) (g n : Nat) (l t : List Int) (b i : Value) (w : World) : Prop :=
  ∃ (c : Bool) (k : Nat), b = .bool c ∧ i = .int .i64 k ∧ k ≤ n ∧ Hid (∃ t', St l t' ∧ (c = false → t' = t ∧ Upto t k) ∧ (c = true → far t' < far t) ∧ In base w1 g 0 t' w)

set_option maxRecDepth 1000000 in
set_option maxHeartbeats 8000000 in
theorem rorder_is (A : Option Addr) (n c B : Nat) (l : List Int) (w : World) (hr : Rd w B .i32 A l) (hl : l.length = n) (hnil : A = none → c = 0) (hn : n ≤ 1099511627776) (hS : Sp w) (hf : Fit l) :
    Calls Tryd.prog 10 #[.slice A n c] w (OrdPost w l) := by
  obtain ⟨i0, hi0, hz0, hz1, hz2⟩ := info_parts info21
  have hmix := mixed
  have HR := Lib.hid (hr.alloc (.cells #[] 21))
  have HL := Lib.hid hl
  have HS := Lib.hid hS
  have HF := Lib.hid hf
  have HO := Lib.hid (Own.empty_at (w := w) 21 .i32 rfl)
  have HNIL := Lib.hid hnil
  clear hr hl hS hnil hf
  go_enter Tryd.func10, Tryd.ntmps10
  go_wp2_with (first | (at_builtin; refine wpl_append (by rfl) (.tmp 8) (.tmp 9) 22 rfl Tryd.underlying22 hi0 hz0 hz1 hz2 rfl (by omega) HO.out rfl HR.out rfl HL.out HNIL.out (by simpa using hn) (by simp) ?_; intro v w1 hown hb1) | fail)
  rw [List.nil_append] at hown
  have HB1 := Lib.hid (show Bel w w1 from Below.trans ((Bel.refl w).alloc _) hb1)
  by_cases hl0 : l = []
  · have hn0 : n = 0 := by rw [← HL.out, hl0]; rfl
    subst hn0
    obtain ⟨A', cap, rfl, _, _, _⟩ := hown.rdn HL.out
    have HOW := Lib.hid hown
    have H0 := Lib.hid hl0
    clear hown hl0 hb1 HO HR HNIL
    go_wp2
    go_loopw [4] (fun b wr => ∃ c : Bool, b = .bool c ∧ wr = w1) (fun b _ => match b with | .bool true => 1 | _ => 0)
    case atStart => exact ⟨true, rfl, rfl⟩
    case round =>
      obtain ⟨c, rfl, rfl⟩ := hrel
      cases c with
      | true =>
        go_wp2
        go_loopw [4, 5] (fun b i wr' => b = .bool false ∧ i = .int .i64 0 ∧ wr' = wr) (fun _ _ _ => 0)
        case atStart => exact ⟨rfl, rfl, rfl⟩
        case round =>
          obtain ⟨rfl, rfl, rfl⟩ := hrel
          go_wp2
          go_roundw
          case rel => exact ⟨false, rfl, by first | rfl | trivial⟩
          case measure => simp
      | false =>
        go_wp2
        go_ret
        exact ⟨_, l, rfl, by rw [H0.out]; exact ord_nil, HOW.out, HB1.out⟩
  · obtain ⟨g, cap, rfl, hcap, hin⟩ := In.start hown hl0 (HS.out.by HB1.out) HS.out.size HB1.out.size
    rw [HL.out] at hcap
    have hown' := hown
    rw [HL.out] at hown'
    have HOW := Lib.hid hown'
    have HIN := Lib.hid hin
    rw [HL.out]
    clear hown hown' hl0 hb1 HO HR HNIL hin
    obtain ⟨base, hbase⟩ : ∃ base, w.heap.size = base := ⟨_, rfl⟩
    rw [hbase] at HOW HIN
    have HBASE := Lib.hid hbase
    clear hbase
    go_wp2
    go_loopg [4] (far l + 1) (fun gh b wr => ROut base w1 g l gh b wr)
    case atStart => exact ⟨true, rfl, Lib.hid ⟨l, St.refl _, (fun h => by cases h), HIN.out, by simp⟩⟩
    case round =>
      clear HIN
      obtain ⟨c, rfl, HK⟩ := hrel
      cases c with
      | true =>
        obtain ⟨t, h1, _, h3, h4⟩ := HK.out
        have HT : Hid (St l t ∧ far t + 1 ≤ gk ∧ t.length = n) := Lib.hid ⟨h1, by simpa using h4, by rw [h1.length]; exact HL.out⟩
        have HIN := Lib.hid h3
        clear h1 h3 h4 HK
        generalize wr = wo at HIN ⊢
        clear wr
        go_wp2
        go_loopw [4, 5] (fun b i wr => RIn base w1 g n l t b i wr) (fun _ i _ => n - (intOf i).toNat)
        case atStart => exact ⟨false, 0, rfl, rfl, Nat.zero_le _, Lib.hid ⟨t, HT.out.1, (fun _ => ⟨rfl, fun i a b h => by omega⟩), (fun h => by cases h), HIN.out⟩⟩
        case round =>
          clear HIN
          obtain ⟨c, k, rfl, rfl, hk, HK⟩ := hrel
          by_cases hlt : k + 1 < n
          · obtain ⟨t', h1, h2, h3, hin⟩ := HK.out
            have hlen : t'.length = n := by rw [h1.length]; exact HL.out
            obtain ⟨X, r1, e1, l1⟩ := cut_two (X := t') (j := k) (by omega)
            obtain ⟨x, y, Y, rfl⟩ : ∃ x y Y, r1 = x :: ([] ++ y :: Y) := by
              rw [e1, List.length_append] at hlen
              match r1, hlen with
              | [], h => simp at h; omega
              | [_], h => simp at h; omega
              | x :: y :: Y, _ => exact ⟨x, y, Y, rfl⟩
            obtain ⟨k1, hk1⟩ : ∃ k1, k + 1 = k1 := ⟨_, rfl⟩
            have hJ : k + 1 + ([] : List Int).length = k1 := by simpa using hk1
            rw [e1] at hin
            have g1 := at_mid X x ([] ++ y :: Y) l1
            have g2 := at_mid2 X x [] y Y l1 hJ
            have hne : k ≠ k1 := by omega
            have fx := HF.out x (h1.mem.1 (by rw [e1]; simp))
            have fy := HF.out y (h1.mem.1 (by rw [e1]; simp))
            obtain ⟨cx, hcx⟩ : ∃ c, cls x = c := ⟨_, rfl⟩
            obtain ⟨cy, hcy⟩ : ∃ c, cls y = c := ⟨_, rfl⟩
            have la := hin.cells g1
            have lb := hin.cells g2
            simp only [Nat.zero_add] at la lb
            have ha := rclass_at x cx wr fx hcx
            have hb := rclass_at y cy wr fy hcy
            have HIN := Lib.hid hin
            have HG1 := Lib.hid g1
            have HG2 := Lib.hid g2
            have ea : ((k : Int) + 1).toNat = k1 := by omega
            have pa : (0 : Int) ≤ (k : Int) + 1 := by omega
            have ba : (k : Int) + 1 < (n : Int) := by omega
            have ra : IntKind.i64.wrap ((k : Int) + 1) = (k : Int) + 1 := by rw [IntKind.wrap_i64]; omega
            have pc : (0 : Int) ≤ (k : Int) := by omega
            have bc : (k : Int) < (n : Int) := by omega
            have hnn := cls_nn y
            rw [hcy] at hnn
            by_cases hsw : 0 < cy ∧ cy < cx
            · obtain ⟨s1, s2⟩ := hsw
              have HSW : Hid (∀ w', In base w1 g 0 (X ++ x :: ([] ++ y :: Y)) w' → In base w1 g 0 (X ++ y :: ([] ++ x :: Y)) ((w'.setCell ⟨g, 0 + k, none⟩ (.int .i32 y)).setCell ⟨g, 0 + k1, none⟩ (.int .i32 x)).drew) := Lib.hid fun w' hi => hi.swap HG1.out HG2.out hne (swap_mid X x y [] Y l1 hJ)
              have HV : Hid (∀ w', In base w1 g 0 (X ++ y :: ([] ++ x :: Y)) w' → RIn base w1 g n l t (.bool true) (.int .i64 ((k : Int) + 1)) w') := Lib.hid fun w' hi => by
                have hst : St t' (X ++ y :: x :: Y) := by rw [e1]; exact St.swap X Y (by omega) (by omega) (by omega)
                have hfar : far (X ++ y :: x :: Y) < far t' := by rw [e1]; exact far_swap (by omega) X Y
                refine ⟨true, k + 1, rfl, by go_num, by omega, Lib.hid ⟨X ++ y :: x :: Y, h1.trans hst, (fun h => by cases h), fun _ => ?_, by simpa using hi⟩⟩
                cases c with
                | true => have := h3 rfl; omega
                | false => rw [(h2 rfl).1] at hfar; exact hfar
              clear hin g1 g2 hJ h1 h2 h3 e1 l1 HK hcx hcy fx fy hlen hk1 hnn
              go_wp2_with fail
              go_quiet_grown (first | (go_at_call_of 11 x; with_reducible refine Calls.grown_of (ha _ _)) | (go_at_call_of 11 y; with_reducible refine Calls.grown_of (hb _ _)))
              have S2 : Hid (In base w1 g 0 (X ++ x :: ([] ++ y :: Y)) (Sort.grow (wr.drewN nq) osq)) := Lib.hid (HIN.out.gr ⟨nq, osq, rfl⟩)
              clear la lb ha hb HIN
              generalize Sort.grow (wr.drewN nq) osq = w2 at S2 ⊢
              have c1 := S2.out.cell HG1.out
              have c2 := S2.out.cell HG2.out
              have f1 := S2.out.free HG1.out
              have f2 := S2.out.free HG2.out
              have c3 := S2.out.c2 HG2.out hne (.int .i32 y)
              have S3 : Hid (In base w1 g 0 (X ++ y :: ([] ++ x :: Y)) ((w2.setCell ⟨g, 0 + k, none⟩ (.int .i32 y)).setCell ⟨g, 0 + k1, none⟩ (.int .i32 x)).drew) := Lib.hid (HSW.out _ S2.out)
              rw [Nat.zero_add] at c1 f1
              simp only [Nat.zero_add] at c2 f2 c3 S3
              clear S2 HSW HG1 HG2 hne
              go_wp2_with fail
              go_region
              clear c1 c2 c3 f1 f2
              generalize ((w2.setCell ⟨g, k, none⟩ (.int .i32 y)).setCell ⟨g, k1, none⟩ (.int .i32 x)).drew = w3 at S3 ⊢
              clear ea
              go_wp2
              go_roundw
              case rel => exact HV.out _ S3.out
              case measure => simp [intOf]; omega
            · have HV : Hid (∀ w', In base w1 g 0 (X ++ x :: ([] ++ y :: Y)) w' → RIn base w1 g n l t (.bool c) (.int .i64 ((k : Int) + 1)) w') := Lib.hid fun w' hi => by
                refine ⟨c, k + 1, rfl, by go_num, by omega, Lib.hid ⟨t', h1, fun hc => ?_, h3, by rw [e1]; exact hi⟩⟩
                obtain ⟨q1, q2⟩ := h2 hc
                refine ⟨q1, fun i a b hi ha' hb' hp => ?_⟩
                rcases Nat.lt_or_eq_of_le (Nat.le_of_lt_succ hi) with h | rfl
                · exact q2 i a b h ha' hb' hp
                · rw [← q1, e1] at ha' hb'
                  obtain rfl := Option.some.inj (HG1.out.symm.trans ha')
                  rw [hk1] at hb'
                  obtain rfl := Option.some.inj (HG2.out.symm.trans hb')
                  omega
              have HSW := Lib.hid hsw
              clear hin g1 g2 hJ h1 h2 h3 e1 l1 HK hcx hcy fx fy hlen hk1 hsw
              by_cases s1 : 0 < cy
              · have s2 : ¬ cy < cx := fun h => HSW.out ⟨s1, h⟩
                go_wp2_with fail
                go_quiet_grown (first | (go_at_call_of 11 x; with_reducible refine Calls.grown_of (ha _ _)) | (go_at_call_of 11 y; with_reducible refine Calls.grown_of (hb _ _)))
                have S2 : Hid (In base w1 g 0 (X ++ x :: ([] ++ y :: Y)) (Sort.grow (wr.drewN nq) osq)) := Lib.hid (HIN.out.gr ⟨nq, osq, rfl⟩)
                clear la lb ha hb HIN
                generalize Sort.grow (wr.drewN nq) osq = w2 at S2 ⊢
                clear ea
                go_wp2
                go_roundw
                case rel => exact HV.out _ S2.out
                case measure => simp [intOf]; omega
              · go_wp2_with fail
                go_quiet_grown (first | (go_at_call_of 11 x; with_reducible refine Calls.grown_of (ha _ _)) | (go_at_call_of 11 y; with_reducible refine Calls.grown_of (hb _ _)))
                have S2 : Hid (In base w1 g 0 (X ++ x :: ([] ++ y :: Y)) (Sort.grow (wr.drewN nq) osq)) := Lib.hid (HIN.out.gr ⟨nq, osq, rfl⟩)
                clear la lb ha hb HIN
                generalize Sort.grow (wr.drewN nq) osq = w2 at S2 ⊢
                clear ea
                go_wp2
                go_roundw
                case rel => exact HV.out _ S2.out
                case measure => simp [intOf]; omega
          · have q1 : ¬ (k : Int) + 1 < (n : Int) := by omega
            obtain ⟨gn, hgn⟩ : ∃ gn, Hid (gn < gk ∧ ROut base w1 g l gn (.bool c) wr) := by
              obtain ⟨t', h1, h2, h3, hin⟩ := HK.out
              obtain ⟨a1, a2, a3⟩ := HT.out
              refine ⟨far t' + c.toNat, Lib.hid ⟨?_, c, rfl, Lib.hid ⟨t', h1, fun hc => ?_, hin, Nat.le_refl _⟩⟩⟩
              · cases c with
                | true => have := h3 rfl; simp; omega
                | false => rw [(h2 rfl).1]; simp; omega
              · obtain ⟨q1, q2⟩ := h2 hc
                subst q1
                intro i a b ha hb hp
                have := (List.getElem?_eq_some_iff.1 hb).1
                exact q2 i a b (by omega) ha hb hp
            clear HK
            go_wp2
            go_roundg gn
            case rel => exact hgn.out.2
            case measure => exact hgn.out.1
      | false =>
        have hF : Hid (∃ d, Ord l d ∧ In base w1 g 0 d wr) := Lib.hid (by
          obtain ⟨t, h1, h2, h3, h4⟩ := HK.out
          exact ⟨t, ⟨h1, h2 rfl⟩, h3⟩)
        clear HK
        go_wp2
        go_ret
        obtain ⟨d, h1, h2⟩ := hF.out
        refine ⟨_, d, rfl, h1, ?_, ?_⟩
        · rw [HBASE.out]
          exact In.own HOW.out h2 h1.1.length
        · have h3 := h2.1
          rw [← HBASE.out] at h3
          exact Below.trans HB1.out h3
end Go.Proofs.YtagcaloocdgmhaaDoor.U
