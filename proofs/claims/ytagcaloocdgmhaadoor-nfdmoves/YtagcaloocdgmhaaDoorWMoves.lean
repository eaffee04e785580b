/- NfdMoves answers true at any letter, any marks and any place; nothing that was there is changed. -/
import Derived.Test.YtagcaloocdgmhaaDoorWOrd
import Derived.Deep.RegionWith
namespace Go.Proofs.YtagcaloocdgmhaaDoor.U
open Go.RowKit
set_option linter.unusedVariables false

/-- Every text has its order. -/
theorem ord_ex (l : List Int) : ∃ L, Ord l L := by
  generalize hn : far l = n
  induction n using Nat.strongRecOn generalizing l with
  | _ n ih =>
    by_cases h : Srt l
    · exact ⟨l, ord_self h⟩
    · unfold Srt at h
      simp only [Classical.not_forall] at h
      obtain ⟨i, a, b, ha, hb, hp, hc⟩ := h
      have hi : i + 1 < l.length := (List.getElem?_eq_some_iff.1 hb).1
      have e : l = l.take i ++ a :: b :: l.drop (i + 2) := by
        have h1 : l.drop i = a :: l.drop (i + 1) := by
          rw [List.drop_eq_getElem_cons (by omega)]
          congr 1
          exact (List.getElem?_eq_some_iff.1 ha).2
        have h2 : l.drop (i + 1) = b :: l.drop (i + 2) := by
          rw [List.drop_eq_getElem_cons hi]
          congr 1
          exact (List.getElem?_eq_some_iff.1 hb).2
        rw [← h2, ← h1, List.take_append_drop]
      have hf := far_swap (a := a) (b := b) (by omega) (l.take i) (l.drop (i + 2))
      rw [← e] at hf
      obtain ⟨L, hL⟩ := ih _ (by omega) (l.take i ++ b :: a :: l.drop (i + 2)) rfl
      refine ⟨L, ?_⟩
      rw [e]
      exact hL.of_st (St.swap _ _ (by omega) (by omega) (by omega)).symm
theorem moves_same {q P T X : List Int} {u v : Int} (hu : 0 < cls u) (hv : 0 < cls v) (hne : cls u ≠ cls v) (h : Ord (q ++ (P ++ u :: v :: T)) X) : Ord (q ++ (P ++ v :: u :: T)) X :=
  h.of_st ((St.refl q).append (St.swap P T hu hv hne))
theorem moves_not {q P T X Y : List Int} {u v : Int} (hu : 0 < cls u) (he : cls u = cls v) (hne : u ≠ v) (h : Ord (q ++ (P ++ u :: v :: T)) X) (g : Ord (q ++ (P ++ v :: u :: T)) Y) : X ≠ Y := by
  rintro rfl
  have e := (h.1.2 (cls u) hu).symm.trans (g.1.2 (cls u) hu)
  simp only [pi_append] at e
  have e2 := List.append_cancel_left (List.append_cancel_left e)
  have a1 : pi (cls u) (u :: v :: T) = u :: v :: pi (cls u) T := by rw [pi_cons, pi_cons, if_pos (.inr rfl), if_pos (.inr he.symm)]
  have a2 : pi (cls u) (v :: u :: T) = v :: u :: pi (cls u) T := by rw [pi_cons, pi_cons, if_pos (.inr he.symm), if_pos (.inr rfl)]
  rw [a1, a2] at e2
  exact hne (List.cons.inj e2).1
theorem cut_pair {l : List Int} {k : Nat} {u v : Int} (hu : l[k]? = some u) (hv : l[k + 1]? = some v) : l = l.take k ++ u :: ([] ++ v :: l.drop (k + 2)) := by
  have hi : k + 1 < l.length := (List.getElem?_eq_some_iff.1 hv).1
  have h1 : l.drop k = u :: l.drop (k + 1) := by
    rw [List.drop_eq_getElem_cons (by omega)]
    congr 1
    exact (List.getElem?_eq_some_iff.1 hu).2
  have h2 : l.drop (k + 1) = v :: l.drop (k + 2) := by
    rw [List.drop_eq_getElem_cons hi]
    congr 1
    exact (List.getElem?_eq_some_iff.1 hv).2
  rw [List.nil_append, ← h2, ← h1, List.take_append_drop]

/-- A mark that the reference does not split. -/
def Okm (x : Int) : Prop := 0 < cls x ∧ ∀ t ∈ twelve, t.1 ≠ x
theorem Okm.free {x : Int} (h : Okm x) : pts x = [] := mark_free h.1 h.2

theorem moves_ans (b : Int) (A : Option Addr) (n c : Nat) (q : Int) (w : World) (hS : Sp w) (h : n < 2 ∨ 30 < n) : Calls Tryd.prog 6 #[.int .i32 b, .slice A n c, .int .u8 q] w (BoolIs w true) := by
  have H := Lib.hid (answers_is w hS)
  clear hS
  rcases h with h | h
  · have q1 : (n : Int) < 2 := by omega
    go_enter Tryd.func6, Tryd.ntmps6
    go_wp2_with fail
    with_reducible refine H.out.mono ?_
    rintro e w1 ⟨rfl, h1⟩
    go_wp2
    go_ret
    exact ⟨rfl, h1⟩
  · have q1 : ¬ (n : Int) < 2 := by omega
    have q2 : (30 : Int) < (n : Int) := by omega
    go_enter Tryd.func6, Tryd.ntmps6
    go_wp2_with fail
    with_reducible refine H.out.mono ?_
    rintro e w1 ⟨rfl, h1⟩
    go_wp2
    go_ret
    exact ⟨rfl, h1⟩

def MLoop (w : World) (l : List Int) (n : Nat) (i : Value) (w' : World) : Prop := ∃ k : Nat, i = .int .i64 k ∧ k ≤ n ∧ Hid (Bel w w' ∧ ∀ (j : Nat) x, j < k → l[j]? = some x → Okm x)

section
variable {P : Program} {ops : Array Oper} {Q : Exit → Act → World → Prop} {md : Region.Mode} {S : World → Prop}
/-- An operation whose guard says no; one that yields v. -/
theorem take_no (i d : Nat) {oi : Oper} {fuel : Nat} {listed : Array Bool} {a : Act} {w : World} (hi : ops[i]? = some oi) (hd : oi.dst = some d)
    (hs : Region.noSelect ops = true) (hf : Region.free md ops listed i = true) (hr : (Region.ready md ops listed).contains i = true)
    (hQ : ∀ c a w, Q (.panic c) (a.put (some d) undef) w → Q (.panic c) a w) (hw : Region.wanted oi (yielded ops a.tmps) = false) (hS : S w)
    (h : wpAnyH P md ops Q S fuel (listed.setIfInBounds i true) (a.put (some d) undef) w) : wpAnyH P md ops Q S (fuel + 1) listed a w :=
  wpAnyH_take hi hs hf hr (by rw [hd]; exact hQ) (.inr ⟨hw, rfl⟩) hS (by rw [hd]; exact h)
theorem take_yes (i d : Nat) (v : Value) {oi : Oper} {fuel : Nat} {listed : Array Bool} {a : Act} {w : World} (hi : ops[i]? = some oi) (hd : oi.dst = some d)
    (hs : Region.noSelect ops = true) (hf : Region.free md ops listed i = true) (hr : (Region.ready md ops listed).contains i = true)
    (hQ : ∀ c a w, Q (.panic c) (a.put (some d) v) w → Q (.panic c) a w) (hw : Region.wanted oi (yielded ops a.tmps) = true) (hy : ∀ w, S w → (execOp a.eval oi).run P w = .ok (.value v) w) (hS : S w)
    (h : wpAnyH P md ops Q S fuel (listed.setIfInBounds i true) (a.put (some d) v) w) : wpAnyH P md ops Q S (fuel + 1) listed a w :=
  wpAnyH_take hi hs hf hr (by rw [hd]; exact hQ) (.inl ⟨hw, hy⟩) hS (by rw [hd]; exact h)
end

/-- What the last statement holds on to: the two places of the argument. -/
def MS (w5 : World) (g off k k1 : Nat) (u v : Int) (w' : World) : Prop := Bel w5 w' ∧ w'.cell? ⟨g, off + k, none⟩ = some (.int .i32 u) ∧ w'.cell? ⟨g, off + k1, none⟩ = some (.int .i32 v)
theorem MS.b {w5 w' : World} {g off k k1 : Nat} {u v : Int} (h : MS w5 g off k k1 u v w') : Bel w5 w' := h.1
theorem MS.bel {w5 w' w'' : World} {g off k k1 : Nat} {u v : Int} (h : MS w5 g off k k1 u v w') (hb : Bel w' w'') : MS w5 g off k k1 u v w'' := ⟨h.1.trans hb, cell_bel h.2.1 hb, cell_bel h.2.2 hb⟩

set_option maxRecDepth 1000000 in
set_option maxHeartbeats 4000000 in
theorem walk_moves (b : Int) (A : Option Addr) (n c : Nat) (l : List Int) (at_ : Int) (w : World) (hS : Sp w) (hb : -2147483648 ≤ b ∧ b ≤ 2147483647) (h : Came .i32 w A n c l) (hat : 0 ≤ at_ ∧ at_ < 256) :
    Calls Tryd.prog 6 #[.int .i32 b, .slice A n c, .int .u8 at_] w (BoolIs w true) := by
  by_cases hn : n < 2 ∨ 30 < n
  · exact moves_ans b A n c at_ w hS hn
  obtain ⟨i0, hi0, hz0, hz1, hz2⟩ := info_parts info21
  have hmix := mixed
  have HF := Lib.hid (fit_of h)
  obtain ⟨hl, hc, hrd, hnil, _⟩ := h
  have HS := Lib.hid hS
  have HL := Lib.hid hl
  have HR := Lib.hid hrd
  have HNIL := Lib.hid hnil
  have q1 : ¬ (n : Int) < 2 := by omega
  have q2 : ¬ (30 : Int) < (n : Int) := by omega
  have n1 : 2 ≤ n := by omega
  have n2 : n ≤ 30 := by omega
  obtain ⟨cb, hcb⟩ : ∃ c, cls b = c := ⟨_, rfl⟩
  have HB := Lib.hid (rclass_is b cb w hb hcb)
  have hnn := cls_nn b
  rw [hcb] at hnn
  clear hl hrd hnil hS hn hcb
  by_cases hb0 : 0 < cb
  · have q3 : (cb > 0) := hb0
    go_enter Tryd.func6, Tryd.ntmps6
    go_wp2_with fail
    with_reducible refine HB.out.mono ?_
    rintro e w1 ⟨rfl, h1⟩
    have H := Lib.hid (answers_is w1 (HS.out.by h1.bel))
    go_wp2_with fail
    with_reducible refine H.out.mono ?_
    rintro e w2 ⟨rfl, h2⟩
    go_wp2
    go_ret
    exact ⟨rfl, h1.bel.trans h2⟩
  obtain rfl : cb = 0 := by omega
  clear hb0 hnn
  obtain ⟨k, hk0, hk⟩ : ∃ k : Nat, at_ % ((n : Int) - 1) = (k : Int) ∧ k + 1 < n := by
    have h1 := Int.emod_nonneg at_ (b := (n : Int) - 1) (by omega)
    have h2 := Int.emod_lt_of_pos at_ (b := (n : Int) - 1) (by omega)
    exact ⟨(at_ % ((n : Int) - 1)).toNat, by omega, by omega⟩
  have hk1' : at_.tmod ((n : Int) - 1) = (k : Int) := by rw [Int.tmod_eq_emod_of_nonneg hat.1]; exact hk0
  obtain ⟨hat0, hat1⟩ := hat
  have hw1 : IntKind.i64.wrap at_ = at_ := by rw [IntKind.wrap_i64]; omega
  have hw2 : IntKind.i64.wrap ((n : Int) - 1) = (n : Int) - 1 := by rw [IntKind.wrap_i64]; omega
  have hw3 : IntKind.i64.wrap (k : Int) = (k : Int) := by rw [IntKind.wrap_i64]; omega
  have hz : ((n : Int) - 1 == 0) = false := by simp; omega
  have hz' : ¬ ((n : Int) - 1 = 0) := by omega
  go_enter Tryd.func6, Tryd.ntmps6
  go_wp2_with fail
  with_reducible refine HB.out.mono ?_
  rintro e w1 ⟨rfl, h1⟩
  have hbw1 := h1.bel
  clear h1 HB
  go_wp2
  clear hw1 hw2 hw3 hz hz' hk0 hk1' hat0 hat1
  obtain ⟨k1, hk1⟩ : ∃ k1, k + 1 = k1 := ⟨_, rfl⟩
  obtain ⟨k2, hk2⟩ : ∃ k2, k + 2 = k2 := ⟨_, rfl⟩
  obtain ⟨u, hu⟩ : ∃ u, l[k]? = some u := ⟨l[k]'(by rw [HL.out]; omega), by simp⟩
  obtain ⟨v, hv⟩ : ∃ v, l[k1]? = some v := ⟨l[k1]'(by rw [HL.out]; omega), by simp⟩
  have hrk := HR.out.bel hbw1
  obtain ⟨g, off, rfl, _, _⟩ := hrk.isSome (by rw [HL.out]; omega)
  have la := hrk.cells hu
  have lb := hrk.cells hv
  have fu := HF.out u (List.mem_of_getElem? hu)
  have fv := HF.out v (List.mem_of_getElem? hv)
  obtain ⟨cu, hcu⟩ : ∃ c, cls u = c := ⟨_, rfl⟩
  obtain ⟨cv, hcv⟩ : ∃ c, cls v = c := ⟨_, rfl⟩
  have ha := rclass_at u cu w1 fu hcu
  have hb' := rclass_at v cv w1 fv hcv
  have ea : ((k : Int) + 1).toNat = k1 := by omega
  have pa : (0 : Int) ≤ (k : Int) + 1 := by omega
  have ba : (k : Int) + 1 < (n : Int) := by omega
  have ra : IntKind.i64.wrap ((k : Int) + 1) = (k : Int) + 1 := by rw [IntKind.wrap_i64]; omega
  have pc : (0 : Int) ≤ (k : Int) := by omega
  have bc : (k : Int) < (n : Int) := by omega
  have HU := Lib.hid hu
  have HV := Lib.hid hv
  have HCU := Lib.hid hcu
  have HCV := Lib.hid hcv
  have HK1 := Lib.hid hk1
  have HK2 := Lib.hid hk2
  clear hu hv hrk fu fv hcu hcv hk1 hk2
  go_quiet_grown (first | (go_at_call_of 11 u; with_reducible refine Calls.grown_of (ha _ _)) | (go_at_call_of 11 v; with_reducible refine Calls.grown_of (hb' _ _)))
  have hbw2 : Bel w (Sort.grow (w1.drewN nq) osq) := hbw1.trans (Gr.bel ⟨nq, osq, rfl⟩)
  clear la lb ha hb' hbw1
  generalize Sort.grow (w1.drewN nq) osq = w2 at hbw2 ⊢
  clear ea
  go_wp2
  go_loopw [10] (fun i wr => MLoop w2 l n i wr) (fun i _ => n + 1 - (intOf i).toNat)
  case atStart => exact ⟨0, rfl, by omega, Lib.hid ⟨Bel.refl _, fun j x h => by omega⟩⟩
  case round =>
    obtain ⟨i, rfl, hi, HK⟩ := hrel
    have hbr := hbw2.trans HK.out.1
    by_cases hlt : i < n
    · obtain ⟨x, hx⟩ : ∃ x, l[i]? = some x := ⟨l[i]'(by rw [HL.out]; exact hlt), by simp⟩
      have hcell := (HR.out.bel hbr).at hx
      have fx := HF.out x (List.mem_of_getElem? hx)
      obtain ⟨cx, hcx⟩ : ∃ c, cls x = c := ⟨_, rfl⟩
      have HC := Lib.hid (fun w => rclass_is x cx w fx hcx)
      have hnn := cls_nn x
      rw [hcx] at hnn
      obtain ⟨p, q, r, hr, H1⟩ : ∃ p q r : Int, ((r = 0 ∧ ∀ t ∈ twelve, t.1 ≠ x) ∨ 0 < r) ∧ Hid (∀ w, Calls Tryd.prog 13 #[.int .i32 x] w (ThreeIs w p q r)) := by
        by_cases ht : ∃ t ∈ twelve, t.1 = x
        · obtain ⟨t, ht, rfl⟩ := ht
          exact ⟨_, _, _, .inr (twelve_pos ht), Lib.hid fun w => rsplit_yes t w ht⟩
        · have h0 : ∀ t ∈ twelve, t.1 ≠ x := fun t h1 h2 => ht ⟨t, h1, h2⟩
          exact ⟨0, 0, 0, .inl ⟨rfl, h0⟩, Lib.hid fun w => rsplit_no x w h0⟩
      have HX : Hid (cls x = cx ∧ l[i]? = some x) := Lib.hid ⟨hcx, hx⟩
      have q0 : (0 : Int) ≤ (i : Int) := by omega
      have q1 : (i : Int) < (n : Int) := by omega
      clear hx hcx fx
      go_wp2_with fail
      with_reducible refine (H1.out _).mono ?_
      rintro e w3 ⟨rfl, rfl⟩
      go_wp2_with fail
      with_reducible refine (HC.out _).mono ?_
      rintro e w4 ⟨rfl, h4⟩
      have hb4 := HK.out.1.trans h4.bel
      by_cases hgo : 0 < cx ∧ r = 0
      · obtain ⟨g1, rfl⟩ := hgo
        have q3 : (cx == 0) = false := by simp; omega
        have HN : Hid (MLoop w2 l n (.int .i64 ((i : Int) + 1)) w4) := Lib.hid ⟨i + 1, by go_num, by omega, Lib.hid ⟨hb4, fun j y hj hy => by
          rcases Nat.lt_or_eq_of_le (Nat.le_of_lt_succ hj) with h | rfl
          · exact HK.out.2 j y h hy
          · obtain rfl := Option.some.inj (HX.out.2.symm.trans hy)
            rcases hr with ⟨_, hr⟩ | hr
            · exact ⟨by rw [HX.out.1]; exact g1, hr⟩
            · omega⟩⟩
        clear hr hb4 h4
        go_wp2
        go_roundw
        case rel => exact HN.out
        case measure => simp [intOf]; omega
      · have hb5 := hbw2.trans hb4
        have H2 := Lib.hid (answers_is w4 (HS.out.by hb5))
        by_cases g1 : 0 < cx
        · have g2 : 0 < r := by
            rcases hr with ⟨hr, _⟩ | hr
            · exact absurd ⟨g1, hr⟩ hgo
            · exact hr
          have q3 : (cx == 0) = false := by simp; omega
          clear hr hgo
          go_wp2_with fail
          with_reducible refine H2.out.mono ?_
          rintro e w5 ⟨rfl, h5⟩
          go_wp2
          go_ret
          exact ⟨rfl, hb5.trans h5⟩
        · obtain rfl : cx = 0 := by omega
          clear hr hgo
          go_wp2_with fail
          with_reducible refine H2.out.mono ?_
          rintro e w5 ⟨rfl, h5⟩
          go_wp2
          go_ret
          exact ⟨rfl, hb5.trans h5⟩
    · have q1 : ¬ (i : Int) < (n : Int) := by omega
      have HOK : Hid (∀ x ∈ l, Okm x) := Lib.hid fun x hx => by
        obtain ⟨j, hj, he⟩ := List.getElem_of_mem hx
        exact HK.out.2 j x (by rw [HL.out] at hj; omega) (by rw [List.getElem?_eq_getElem hj, he])
      have HO1 := Lib.hid (Own.lit wr 21 .i32 (cs := #[.int .i32 b]) (l := [b]) (n := 1) rfl rfl (by decide))
      have HR1 := Lib.hid ((HR.out.bel hbr).alloc (.cells #[.int .i32 b] 21))
      obtain ⟨m, hm⟩ : ∃ m, n + 1 = m := ⟨_, rfl⟩
      obtain ⟨xs, hxs⟩ : ∃ xs, [b] ++ l = xs := ⟨_, rfl⟩
      have HM : Hid (xs.length = m) := Lib.hid (by rw [← hxs, ← hm, List.length_append, HL.out, List.length_singleton]; omega)
      have HXS := Lib.hid hxs
      have HMM := Lib.hid hm
      have m3 : m ≤ 31 := by omega
      clear hxs hm HK
      go_wp2_with (first
        | (at_builtin; refine wpl_append (by rfl) (.tmp 74) (.tmp 75) 22 rfl Tryd.underlying22 hi0 hz0 hz1 hz2 rfl (by omega) HO1.out rfl HR1.out rfl HL.out HNIL.out (by simp; omega) (by simp) ?_; intro v3 w3 hown3 hb3; rw [HXS.out] at hown3; obtain ⟨A3, cap3, rfl, hcap3, hrd3, hnil3⟩ := hown3.rdn HM.out; have hbw3 : Bel w w3 := hbr.trans (Below.trans ((Bel.refl wr).alloc _) hb3))
        | (at_builtin; refine wpl_append (by rfl) (.tmp 77) (.tmp 78) 22 rfl Tryd.underlying22 hi0 hz0 hz1 hz2 rfl (by omega) (Own.empty_at (w := w3) 21 .i32 rfl) rfl (hrd3.alloc (.cells #[] 21)) rfl HM.out hnil3 (by simp; omega) (by simp) ?_; intro v4 w4 hown4 hb4; rw [List.nil_append] at hown4; have h34 : Bel w3 w4 := Below.trans ((Bel.refl w3).alloc _) hb4)
        | fail)
      clear HO1 HR1 hb3 hown3 hb4
      have hbw4 := hbw3.trans h34
      obtain ⟨g4, cap4, rfl, hcap4, hin⟩ := In.start hown4 (fun e => by have := HM.out; rw [e] at this; have h2 := HMM.out; simp at this; omega) (HS.out.by hbw4) (HS.out.by hbw3).size h34.size
      rw [HM.out] at hcap4 hown4 ⊢
      obtain ⟨base, hbase⟩ : ∃ base, w3.heap.size = base := ⟨_, rfl⟩
      rw [hbase] at hin hown4
      have HBASE := Lib.hid hbase
      have HOWN4 := Lib.hid hown4
      have HBW3 := Lib.hid hbw3
      have HR3 := Lib.hid hrd3
      have H34 := Lib.hid h34
      obtain ⟨P, hP⟩ : ∃ P, l.take k = P := ⟨_, rfl⟩
      obtain ⟨T, hT⟩ : ∃ T, l.drop (k + 2) = T := ⟨_, rfl⟩
      have hPl : (b :: P).length = k1 := by rw [← hP, List.length_cons, List.length_take, HL.out]; have := HK1.out; omega
      have hJ : k1 + 1 + ([] : List Int).length = k2 := by have h1 := HK1.out; have h2 := HK2.out; simp; omega
      have hl1 : l = P ++ u :: ([] ++ v :: T) := by rw [← hP, ← hT]; exact cut_pair HU.out (by have := HV.out; rwa [← HK1.out] at this)
      have hx1 : xs = (b :: P) ++ u :: ([] ++ v :: T) := by rw [← HXS.out, hl1]; rfl
      rw [hx1] at hin
      have HL1 := Lib.hid hl1
      have HX1 := Lib.hid hx1
      have g1 := at_mid (b :: P) u ([] ++ v :: T) hPl
      have g2 := at_mid2 (b :: P) u [] v T hPl hJ
      have hne : k1 ≠ k2 := by have h1 := HK1.out; have h2 := HK2.out; omega
      have c1 := hin.cell g1
      have c2 := hin.cell g2
      have f1 := hin.free g1
      have f2 := hin.free g2
      have c3 := hin.c2 g2 hne (.int .i32 v)
      have S3 : Hid (In base w4 g4 0 ((b :: P) ++ v :: ([] ++ u :: T)) ((w4.setCell ⟨g4, 0 + k1, none⟩ (.int .i32 v)).setCell ⟨g4, 0 + k2, none⟩ (.int .i32 u)).drew) := Lib.hid (hin.swap g1 g2 hne (swap_mid (b :: P) u v [] T hPl hJ))
      simp only [Nat.zero_add] at c1 c2 f1 f2 c3 S3
      have ea : ((k : Int) + 1).toNat = k1 := by have := HK1.out; omega
      have ea2 : ((k : Int) + 2).toNat = k2 := by have := HK2.out; omega
      have pa2 : (0 : Int) ≤ (k : Int) + 2 := by omega
      have ba1 : (k : Int) + 1 < (m : Int) := by have := HMM.out; omega
      have ba2 : (k : Int) + 2 < (m : Int) := by have := HMM.out; omega
      have ra2 : IntKind.i64.wrap ((k : Int) + 2) = (k : Int) + 2 := by rw [IntKind.wrap_i64]; omega
      clear hin hP hT hPl hJ hl1 hx1 g1 g2 hne hown4 hbase hbw3 hrd3 h34 hbw4
      go_region
      clear c1 c2 c3 f1 f2
      generalize ((w4.setCell ⟨g4, k1, none⟩ (.int .i32 v)).setCell ⟨g4, k2, none⟩ (.int .i32 u)).drew = w5 at S3 ⊢
      have hlen : ((b :: P) ++ v :: ([] ++ u :: T)).length = m := by rw [← HM.out, HX1.out]; simp
      have hown5 := In.own HOWN4.out S3.out (by rw [hlen, HM.out])
      obtain ⟨A5, cap5, he5, _, hrd5, _⟩ := hown5.rdn hlen
      simp only [Value.slice.injEq] at he5
      obtain ⟨rfl, _, rfl⟩ := he5
      have hB5 : Below w3.heap.size w3 w5 := Below.trans H34.out (by rw [HBASE.out]; exact S3.out.1)
      have hbw5 : Bel w w5 := HBW3.out.trans hB5
      have HRX := Lib.hid (HR3.out.below hB5)
      have HRY := Lib.hid hrd5
      have HLY := Lib.hid hlen
      have hmx : apL xs = ap b ++ (P ++ u :: v :: T) := by
        have h0 := HL1.out
        rw [List.nil_append] at h0
        rw [← HXS.out, apL_append, apL_free (l := l) (fun x hx => (HOK.out x hx).free), apL_cons, apL_nil, List.append_nil, h0]
      have hmy : apL ((b :: P) ++ v :: ([] ++ u :: T)) = ap b ++ (P ++ v :: u :: T) := by
        rw [List.cons_append, apL_cons, List.nil_append, apL_free (l := P ++ v :: u :: T) (fun x hx => (HOK.out x (by rw [HL1.out]; simp at hx ⊢; rcases hx with h | h | h | h <;> simp [h])).free)]
      obtain ⟨X, hX⟩ := ord_ex (apL xs)
      obtain ⟨Y, hY⟩ := ord_ex (apL ((b :: P) ++ v :: ([] ++ u :: T)))
      obtain ⟨mx, hmx'⟩ : ∃ mx, X.length = mx := ⟨_, rfl⟩
      obtain ⟨my, hmy'⟩ : ∃ my, Y.length = my := ⟨_, rfl⟩
      have hpu : 0 < cls u := (HOK.out u (by rw [HL1.out]; simp)).1
      have hpv : 0 < cls v := (HOK.out v (by rw [HL1.out]; simp)).1
      have hsame : cu ≠ cv → X = Y := fun hne => by
        rw [hmx] at hX
        rw [hmy] at hY
        exact ord_one (moves_same hpu hpv (by rw [HCU.out, HCV.out]; exact hne) hX) hY
      have hnot : cu = cv → u ≠ v → X ≠ Y := fun he hne => by
        rw [hmx] at hX
        rw [hmy] at hY
        exact moves_not hpu (by rw [HCU.out, HCV.out]; exact he) hne hX hY
      have mx9 : mx ≤ 93 := by
        have h1 := apL_max xs
        have h2 := hX.1.length
        rw [HM.out] at h1
        omega
      have HA : Hid (∀ w', Bel w5 w' → Calls Tryd.prog 7 #[] w' (BoolIs w' true)) := Lib.hid fun w' h => answers_is w' (HS.out.by (hbw5.trans h))
      have HNX : Hid (∀ w', Bel w5 w' → Calls Tryd.prog 12 #[.slice A3 m cap3] w' (OwnIs w' X mx)) := Lib.hid fun w' h => nfd_as A3 m cap3 _ xs X mx w' (HRX.out.bel h) HM.out (by omega) (HS.out.by (hbw5.trans h)) hX hmx'
      have HNY : Hid (∀ w', Bel w5 w' → Calls Tryd.prog 12 #[.slice (some ⟨g4, 0, none⟩) m cap4] w' (OwnIs w' Y my)) := Lib.hid fun w' h => nfd_as _ m cap4 _ _ Y my w' (HRY.out.bel h) HLY.out (by omega) (HS.out.by (hbw5.trans h)) hY hmy'
      have HE : Hid (∀ w' A B ca cb bb, Rd w' w'.heap.size .i32 A X → Rd w' w'.heap.size .i32 B Y → decide (X = Y) = bb → Calls Tryd.prog 9 #[.slice A mx ca, .slice B my cb] w' (Quiet w' bb)) := Lib.hid fun w' A B ca cb bb h1 h2 h3 => runes_is A B mx my ca cb X Y _ _ bb w' h1 h2 hmx' hmy' (by omega) h3
      have hru := (HR.out.bel hbw5).at HU.out
      have hrv := (HR.out.bel hbw5).at HV.out
      have HSAME := Lib.hid hsame
      have HNOT := Lib.hid hnot
      have HW5 := Lib.hid hbw5
      clear S3 hlen hown5 hrd5 hB5 hbw5 hmx hmy hX hY hmx' hmy' hpu hpv hsame hnot HRX HRY HR3 HOWN4
      have HMS : Hid (MS w5 g off k k1 u v w5) := Lib.hid ⟨Bel.refl _, hru, hrv⟩
      clear hru hrv
      by_cases hcc : cu = cv
      · subst hcc
        by_cases huv : u = v
        · subst huv
          go_wp2_with fail
          refine wp_region_held_drew (S := MS w5 g off k k1 u u) (by kernel_rfl) (by exact HMS.out.bel ((Bel.refl _).drew)) (fun hHeld => ?_)
          refine wpAnyH_ready (rs := [0]) (by kernel_rfl) (by simp) ?_
          refine AllReadyH.cons rfl (fun K hK => ?_) AllReadyH.nil
          go_simp
          with_reducible refine (HA.out _ hHeld.b).mono ?_
          rintro e w6 ⟨rfl, h6⟩
          go_wp2_with fail
          refine hK.out _ _ (hHeld.bel h6) (fun hHeld => ?_)
          clear hK K
          try simp only [Act.put, List.setIfInBounds_toArray, List.set_cons_zero, List.set_cons_succ]
          refine take_yes 1 99 _ rfl rfl (by kernel_rfl) (by kernel_rfl) (by kernel_rfl) (fun _ _ _ h => h) (by kernel_rfl) (fun w hSw => by go_simp <;> with_reducible rfl) hHeld ?_
          try simp only [Act.put, List.setIfInBounds_toArray, List.set_cons_zero, List.set_cons_succ]
          refine take_yes 2 100 _ rfl rfl (by kernel_rfl) (by kernel_rfl) (by kernel_rfl) (fun _ _ _ h => h) (by kernel_rfl) (fun w hSw => by go_simp <;> with_reducible rfl) hHeld ?_
          try simp only [Act.put, List.setIfInBounds_toArray, List.set_cons_zero, List.set_cons_succ]
          refine take_yes 3 101 _ rfl rfl (by kernel_rfl) (by kernel_rfl) (by kernel_rfl) (fun _ _ _ h => h) (by kernel_rfl) (fun w hSw => by go_simp <;> with_reducible rfl) hHeld ?_
          try simp only [Act.put, List.setIfInBounds_toArray, List.set_cons_zero, List.set_cons_succ]
          refine take_yes 4 102 _ rfl rfl (by kernel_rfl) (by kernel_rfl) (by kernel_rfl) (fun _ _ _ h => h) (by kernel_rfl) (fun w hSw => by go_simp <;> with_reducible rfl) hHeld ?_
          try simp only [Act.put, List.setIfInBounds_toArray, List.set_cons_zero, List.set_cons_succ]
          refine take_yes 5 103 _ rfl rfl (by kernel_rfl) (by kernel_rfl) (by kernel_rfl) (fun _ _ _ h => h) (by kernel_rfl) (fun w hSw => by go_simp <;> with_reducible rfl) hHeld ?_
          try simp only [Act.put, List.setIfInBounds_toArray, List.set_cons_zero, List.set_cons_succ]
          refine take_no 6 104 rfl rfl (by kernel_rfl) (by kernel_rfl) (by kernel_rfl) (fun _ _ _ h => h) (by kernel_rfl) hHeld ?_
          try simp only [Act.put, List.setIfInBounds_toArray, List.set_cons_zero, List.set_cons_succ]
          refine take_no 8 106 rfl rfl (by kernel_rfl) (by kernel_rfl) (by kernel_rfl) (fun _ _ _ h => h) (by kernel_rfl) hHeld ?_
          try simp only [Act.put, List.setIfInBounds_toArray, List.set_cons_zero, List.set_cons_succ]
          refine take_no 7 105 rfl rfl (by kernel_rfl) (by kernel_rfl) (by kernel_rfl) (fun _ _ _ h => h) (by kernel_rfl) hHeld ?_
          try simp only [Act.put, List.setIfInBounds_toArray, List.set_cons_zero, List.set_cons_succ]
          refine take_no 9 107 rfl rfl (by kernel_rfl) (by kernel_rfl) (by kernel_rfl) (fun _ _ _ h => h) (by kernel_rfl) hHeld ?_
          try simp only [Act.put, List.setIfInBounds_toArray, List.set_cons_zero, List.set_cons_succ]
          refine take_no 10 108 rfl rfl (by kernel_rfl) (by kernel_rfl) (by kernel_rfl) (fun _ _ _ h => h) (by kernel_rfl) hHeld ?_
          try simp only [Act.put, List.setIfInBounds_toArray, List.set_cons_zero, List.set_cons_succ]
          refine take_yes 11 109 _ rfl rfl (by kernel_rfl) (by kernel_rfl) (by kernel_rfl) (fun _ _ _ h => h) (by kernel_rfl) (fun w hSw => by go_simp <;> with_reducible rfl) hHeld ?_
          try simp only [Act.put, List.setIfInBounds_toArray, List.set_cons_zero, List.set_cons_succ]
          refine take_yes 12 110 _ rfl rfl (by kernel_rfl) (by kernel_rfl) (by kernel_rfl) (fun _ _ _ h => h) (by kernel_rfl) (fun w hSw => by go_simp <;> with_reducible rfl) hHeld ?_
          try simp only [Act.put, List.setIfInBounds_toArray, List.set_cons_zero, List.set_cons_succ]
          refine take_yes 13 111 _ rfl rfl (by kernel_rfl) (by kernel_rfl) (by kernel_rfl) (fun _ _ _ h => h) (by kernel_rfl) (fun w hSw => by go_simp <;> with_reducible rfl) hHeld ?_
          try simp only [Act.put, List.setIfInBounds_toArray, List.set_cons_zero, List.set_cons_succ]
          refine take_yes 14 112 _ rfl rfl (by kernel_rfl) (by kernel_rfl) (by kernel_rfl) (fun _ _ _ h => h) (by kernel_rfl) (fun w hSw => by go_simp <;> with_reducible rfl) hHeld ?_
          try simp only [Act.put, List.setIfInBounds_toArray, List.set_cons_zero, List.set_cons_succ]
          refine take_yes 15 113 _ rfl rfl (by kernel_rfl) (by kernel_rfl) (by kernel_rfl) (fun _ _ _ h => h) (by kernel_rfl) (fun w hSw => by go_simp <;> with_reducible rfl) hHeld ?_
          try simp only [Act.put, List.setIfInBounds_toArray, List.set_cons_zero, List.set_cons_succ]
          refine take_yes 16 114 _ rfl rfl (by kernel_rfl) (by kernel_rfl) (by kernel_rfl) (fun _ _ _ h => h) (by kernel_rfl) (fun w hSw => by go_simp <;> with_reducible rfl) hHeld ?_
          try simp only [Act.put, List.setIfInBounds_toArray, List.set_cons_zero, List.set_cons_succ]
          refine take_yes 17 115 _ rfl rfl (by kernel_rfl) (by kernel_rfl) (by kernel_rfl) (fun _ _ _ h => h) (by kernel_rfl) (fun w hSw => by go_simp <;> with_reducible rfl) hHeld ?_
          try simp only [Act.put, List.setIfInBounds_toArray, List.set_cons_zero, List.set_cons_succ]
          refine take_yes 18 116 _ rfl rfl (by kernel_rfl) (by kernel_rfl) (by kernel_rfl) (fun _ _ _ h => h) (by kernel_rfl) (fun w hSw => by go_simp <;> with_reducible rfl) hHeld ?_
          try simp only [Act.put, List.setIfInBounds_toArray, List.set_cons_zero, List.set_cons_succ]
          refine take_yes 19 117 _ rfl rfl (by kernel_rfl) (by kernel_rfl) (by kernel_rfl) (fun _ _ _ h => h) (by kernel_rfl) (fun w hSw => by go_simp <;> with_reducible rfl) hHeld ?_
          try simp only [Act.put, List.setIfInBounds_toArray, List.set_cons_zero, List.set_cons_succ]
          refine take_yes 20 118 _ rfl rfl (by kernel_rfl) (by kernel_rfl) (by kernel_rfl) (fun _ _ _ h => h) (by kernel_rfl) (fun w hSw => by go_simp <;> with_reducible rfl) hHeld ?_
          try simp only [Act.put, List.setIfInBounds_toArray, List.set_cons_zero, List.set_cons_succ]
          refine take_yes 21 119 _ rfl rfl (by kernel_rfl) (by kernel_rfl) (by kernel_rfl) (fun _ _ _ h => h) (by kernel_rfl) (fun w hSw => by obtain ⟨_, hc1, hc2⟩ := hSw; go_simp <;> with_reducible rfl) hHeld ?_
          try simp only [Act.put, List.setIfInBounds_toArray, List.set_cons_zero, List.set_cons_succ]
          refine take_yes 22 120 _ rfl rfl (by kernel_rfl) (by kernel_rfl) (by kernel_rfl) (fun _ _ _ h => h) (by kernel_rfl) (fun w hSw => by go_simp <;> with_reducible rfl) hHeld ?_
          try simp only [Act.put, List.setIfInBounds_toArray, List.set_cons_zero, List.set_cons_succ]
          refine take_yes 23 121 _ rfl rfl (by kernel_rfl) (by kernel_rfl) (by kernel_rfl) (fun _ _ _ h => h) (by kernel_rfl) (fun w hSw => by go_simp <;> with_reducible rfl) hHeld ?_
          try simp only [Act.put, List.setIfInBounds_toArray, List.set_cons_zero, List.set_cons_succ]
          refine take_yes 24 122 _ rfl rfl (by kernel_rfl) (by kernel_rfl) (by kernel_rfl) (fun _ _ _ h => h) (by kernel_rfl) (fun w hSw => by go_simp <;> with_reducible rfl) hHeld ?_
          try simp only [Act.put, List.setIfInBounds_toArray, List.set_cons_zero, List.set_cons_succ]
          refine take_yes 25 123 _ rfl rfl (by kernel_rfl) (by kernel_rfl) (by kernel_rfl) (fun _ _ _ h => h) (by kernel_rfl) (fun w hSw => by go_simp <;> with_reducible rfl) hHeld ?_
          try simp only [Act.put, List.setIfInBounds_toArray, List.set_cons_zero, List.set_cons_succ]
          refine take_yes 26 124 _ rfl rfl (by kernel_rfl) (by kernel_rfl) (by kernel_rfl) (fun _ _ _ h => h) (by kernel_rfl) (fun w hSw => by obtain ⟨_, hc1, hc2⟩ := hSw; go_simp <;> with_reducible rfl) hHeld ?_
          try simp only [Act.put, List.setIfInBounds_toArray, List.set_cons_zero, List.set_cons_succ]
          refine take_yes 27 125 _ rfl rfl (by kernel_rfl) (by kernel_rfl) (by kernel_rfl) (fun _ _ _ h => h) (by kernel_rfl) (fun w hSw => by go_simp <;> with_reducible rfl) hHeld ?_
          try simp only [Act.put, List.setIfInBounds_toArray, List.set_cons_zero, List.set_cons_succ]
          refine take_yes 28 126 _ rfl rfl (by kernel_rfl) (by kernel_rfl) (by kernel_rfl) (fun _ _ _ h => h) (by kernel_rfl) (fun w hSw => by go_simp <;> with_reducible rfl) hHeld ?_
          try simp only [Act.put, List.setIfInBounds_toArray, List.set_cons_zero, List.set_cons_succ]
          refine take_yes 29 127 _ rfl rfl (by kernel_rfl) (by kernel_rfl) (by kernel_rfl) (fun _ _ _ h => h) (by kernel_rfl) (fun w hSw => by go_simp <;> with_reducible rfl) hHeld ?_
          try simp only [Act.put, List.setIfInBounds_toArray, List.set_cons_zero, List.set_cons_succ]
          refine take_no 30 128 rfl rfl (by kernel_rfl) (by kernel_rfl) (by kernel_rfl) (fun _ _ _ h => h) (by kernel_rfl) hHeld ?_
          try simp only [Act.put, List.setIfInBounds_toArray, List.set_cons_zero, List.set_cons_succ]
          refine take_no 32 130 rfl rfl (by kernel_rfl) (by kernel_rfl) (by kernel_rfl) (fun _ _ _ h => h) (by kernel_rfl) hHeld ?_
          try simp only [Act.put, List.setIfInBounds_toArray, List.set_cons_zero, List.set_cons_succ]
          refine take_no 31 129 rfl rfl (by kernel_rfl) (by kernel_rfl) (by kernel_rfl) (fun _ _ _ h => h) (by kernel_rfl) hHeld ?_
          try simp only [Act.put, List.setIfInBounds_toArray, List.set_cons_zero, List.set_cons_succ]
          refine take_no 33 131 rfl rfl (by kernel_rfl) (by kernel_rfl) (by kernel_rfl) (fun _ _ _ h => h) (by kernel_rfl) hHeld ?_
          try simp only [Act.put, List.setIfInBounds_toArray, List.set_cons_zero, List.set_cons_succ]
          refine take_no 34 132 rfl rfl (by kernel_rfl) (by kernel_rfl) (by kernel_rfl) (fun _ _ _ h => h) (by kernel_rfl) hHeld ?_
          try simp only [Act.put, List.setIfInBounds_toArray, List.set_cons_zero, List.set_cons_succ]
          refine take_no 35 133 rfl rfl (by kernel_rfl) (by kernel_rfl) (by kernel_rfl) (fun _ _ _ h => h) (by kernel_rfl) hHeld ?_
          try simp only [Act.put, List.setIfInBounds_toArray, List.set_cons_zero, List.set_cons_succ]
          refine take_yes 36 134 _ rfl rfl (by kernel_rfl) (by kernel_rfl) (by kernel_rfl) (fun _ _ _ h => h) (by kernel_rfl) (fun w hSw => by go_simp <;> with_reducible rfl) hHeld ?_
          try simp only [Act.put, List.setIfInBounds_toArray, List.set_cons_zero, List.set_cons_succ]
          refine take_yes 37 135 _ rfl rfl (by kernel_rfl) (by kernel_rfl) (by kernel_rfl) (fun _ _ _ h => h) (by kernel_rfl) (fun w hSw => by go_simp <;> with_reducible rfl) hHeld ?_
          try simp only [Act.put, List.setIfInBounds_toArray, List.set_cons_zero, List.set_cons_succ]
          refine take_yes 38 6 _ rfl rfl (by kernel_rfl) (by kernel_rfl) (by kernel_rfl) (fun _ _ _ h => h) (by kernel_rfl) (fun w hSw => by go_simp <;> with_reducible rfl) hHeld ?_
          try simp only [Act.put, List.setIfInBounds_toArray, List.set_cons_zero, List.set_cons_succ]
          refine wpAnyH_done (by kernel_rfl) ?_ _
          go_wp2
          go_ret
          exact ⟨rfl, HW5.out.trans hHeld.b⟩
        · have hd : (u == v) = false := by simpa using huv
          have HBB : Hid (decide (X = Y) = false) := Lib.hid (by simpa using HNOT.out rfl huv)
          go_wp2_with fail
          refine wp_region_held_drew (S := MS w5 g off k k1 u v) (by kernel_rfl) (by exact HMS.out.bel ((Bel.refl _).drew)) (fun hHeld => ?_)
          refine wpAnyH_ready (rs := [0]) (by kernel_rfl) (by simp) ?_
          refine AllReadyH.cons rfl (fun K hK => ?_) AllReadyH.nil
          go_simp
          with_reducible refine (HA.out _ hHeld.b).mono ?_
          rintro e w6 ⟨rfl, h6⟩
          go_wp2_with fail
          refine hK.out _ _ (hHeld.bel h6) (fun hHeld => ?_)
          clear hK K
          try simp only [Act.put, List.setIfInBounds_toArray, List.set_cons_zero, List.set_cons_succ]
          refine take_yes 1 99 _ rfl rfl (by kernel_rfl) (by kernel_rfl) (by kernel_rfl) (fun _ _ _ h => h) (by kernel_rfl) (fun w hSw => by go_simp <;> with_reducible rfl) hHeld ?_
          try simp only [Act.put, List.setIfInBounds_toArray, List.set_cons_zero, List.set_cons_succ]
          refine take_yes 2 100 _ rfl rfl (by kernel_rfl) (by kernel_rfl) (by kernel_rfl) (fun _ _ _ h => h) (by kernel_rfl) (fun w hSw => by go_simp <;> with_reducible rfl) hHeld ?_
          try simp only [Act.put, List.setIfInBounds_toArray, List.set_cons_zero, List.set_cons_succ]
          refine take_yes 3 101 _ rfl rfl (by kernel_rfl) (by kernel_rfl) (by kernel_rfl) (fun _ _ _ h => h) (by kernel_rfl) (fun w hSw => by go_simp <;> with_reducible rfl) hHeld ?_
          try simp only [Act.put, List.setIfInBounds_toArray, List.set_cons_zero, List.set_cons_succ]
          refine take_yes 4 102 _ rfl rfl (by kernel_rfl) (by kernel_rfl) (by kernel_rfl) (fun _ _ _ h => h) (by kernel_rfl) (fun w hSw => by go_simp <;> with_reducible rfl) hHeld ?_
          try simp only [Act.put, List.setIfInBounds_toArray, List.set_cons_zero, List.set_cons_succ]
          refine take_yes 5 103 _ rfl rfl (by kernel_rfl) (by kernel_rfl) (by kernel_rfl) (fun _ _ _ h => h) (by kernel_rfl) (fun w hSw => by go_simp <;> with_reducible rfl) hHeld ?_
          try simp only [Act.put, List.setIfInBounds_toArray, List.set_cons_zero, List.set_cons_succ]
          refine take_no 6 104 rfl rfl (by kernel_rfl) (by kernel_rfl) (by kernel_rfl) (fun _ _ _ h => h) (by kernel_rfl) hHeld ?_
          try simp only [Act.put, List.setIfInBounds_toArray, List.set_cons_zero, List.set_cons_succ]
          refine take_no 8 106 rfl rfl (by kernel_rfl) (by kernel_rfl) (by kernel_rfl) (fun _ _ _ h => h) (by kernel_rfl) hHeld ?_
          try simp only [Act.put, List.setIfInBounds_toArray, List.set_cons_zero, List.set_cons_succ]
          refine take_no 7 105 rfl rfl (by kernel_rfl) (by kernel_rfl) (by kernel_rfl) (fun _ _ _ h => h) (by kernel_rfl) hHeld ?_
          try simp only [Act.put, List.setIfInBounds_toArray, List.set_cons_zero, List.set_cons_succ]
          refine take_no 9 107 rfl rfl (by kernel_rfl) (by kernel_rfl) (by kernel_rfl) (fun _ _ _ h => h) (by kernel_rfl) hHeld ?_
          try simp only [Act.put, List.setIfInBounds_toArray, List.set_cons_zero, List.set_cons_succ]
          refine take_no 10 108 rfl rfl (by kernel_rfl) (by kernel_rfl) (by kernel_rfl) (fun _ _ _ h => h) (by kernel_rfl) hHeld ?_
          try simp only [Act.put, List.setIfInBounds_toArray, List.set_cons_zero, List.set_cons_succ]
          refine take_yes 11 109 _ rfl rfl (by kernel_rfl) (by kernel_rfl) (by kernel_rfl) (fun _ _ _ h => h) (by kernel_rfl) (fun w hSw => by go_simp <;> with_reducible rfl) hHeld ?_
          try simp only [Act.put, List.setIfInBounds_toArray, List.set_cons_zero, List.set_cons_succ]
          refine take_yes 12 110 _ rfl rfl (by kernel_rfl) (by kernel_rfl) (by kernel_rfl) (fun _ _ _ h => h) (by kernel_rfl) (fun w hSw => by go_simp <;> with_reducible rfl) hHeld ?_
          try simp only [Act.put, List.setIfInBounds_toArray, List.set_cons_zero, List.set_cons_succ]
          refine take_yes 13 111 _ rfl rfl (by kernel_rfl) (by kernel_rfl) (by kernel_rfl) (fun _ _ _ h => h) (by kernel_rfl) (fun w hSw => by go_simp <;> with_reducible rfl) hHeld ?_
          try simp only [Act.put, List.setIfInBounds_toArray, List.set_cons_zero, List.set_cons_succ]
          refine take_yes 14 112 _ rfl rfl (by kernel_rfl) (by kernel_rfl) (by kernel_rfl) (fun _ _ _ h => h) (by kernel_rfl) (fun w hSw => by go_simp <;> with_reducible rfl) hHeld ?_
          try simp only [Act.put, List.setIfInBounds_toArray, List.set_cons_zero, List.set_cons_succ]
          refine take_yes 15 113 _ rfl rfl (by kernel_rfl) (by kernel_rfl) (by kernel_rfl) (fun _ _ _ h => h) (by kernel_rfl) (fun w hSw => by go_simp <;> with_reducible rfl) hHeld ?_
          try simp only [Act.put, List.setIfInBounds_toArray, List.set_cons_zero, List.set_cons_succ]
          refine take_yes 16 114 _ rfl rfl (by kernel_rfl) (by kernel_rfl) (by kernel_rfl) (fun _ _ _ h => h) (by kernel_rfl) (fun w hSw => by go_simp <;> with_reducible rfl) hHeld ?_
          try simp only [Act.put, List.setIfInBounds_toArray, List.set_cons_zero, List.set_cons_succ]
          refine take_yes 17 115 _ rfl rfl (by kernel_rfl) (by kernel_rfl) (by kernel_rfl) (fun _ _ _ h => h) (by kernel_rfl) (fun w hSw => by go_simp <;> with_reducible rfl) hHeld ?_
          try simp only [Act.put, List.setIfInBounds_toArray, List.set_cons_zero, List.set_cons_succ]
          refine take_yes 18 116 _ rfl rfl (by kernel_rfl) (by kernel_rfl) (by kernel_rfl) (fun _ _ _ h => h) (by kernel_rfl) (fun w hSw => by go_simp <;> with_reducible rfl) hHeld ?_
          try simp only [Act.put, List.setIfInBounds_toArray, List.set_cons_zero, List.set_cons_succ]
          refine take_yes 19 117 _ rfl rfl (by kernel_rfl) (by kernel_rfl) (by kernel_rfl) (fun _ _ _ h => h) (by kernel_rfl) (fun w hSw => by go_simp <;> with_reducible rfl) hHeld ?_
          try simp only [Act.put, List.setIfInBounds_toArray, List.set_cons_zero, List.set_cons_succ]
          refine take_yes 20 118 _ rfl rfl (by kernel_rfl) (by kernel_rfl) (by kernel_rfl) (fun _ _ _ h => h) (by kernel_rfl) (fun w hSw => by go_simp <;> with_reducible rfl) hHeld ?_
          try simp only [Act.put, List.setIfInBounds_toArray, List.set_cons_zero, List.set_cons_succ]
          refine take_yes 21 119 _ rfl rfl (by kernel_rfl) (by kernel_rfl) (by kernel_rfl) (fun _ _ _ h => h) (by kernel_rfl) (fun w hSw => by obtain ⟨_, hc1, hc2⟩ := hSw; go_simp <;> with_reducible rfl) hHeld ?_
          try simp only [Act.put, List.setIfInBounds_toArray, List.set_cons_zero, List.set_cons_succ]
          refine take_yes 22 120 _ rfl rfl (by kernel_rfl) (by kernel_rfl) (by kernel_rfl) (fun _ _ _ h => h) (by kernel_rfl) (fun w hSw => by go_simp <;> with_reducible rfl) hHeld ?_
          try simp only [Act.put, List.setIfInBounds_toArray, List.set_cons_zero, List.set_cons_succ]
          refine take_yes 23 121 _ rfl rfl (by kernel_rfl) (by kernel_rfl) (by kernel_rfl) (fun _ _ _ h => h) (by kernel_rfl) (fun w hSw => by go_simp <;> with_reducible rfl) hHeld ?_
          try simp only [Act.put, List.setIfInBounds_toArray, List.set_cons_zero, List.set_cons_succ]
          refine take_yes 24 122 _ rfl rfl (by kernel_rfl) (by kernel_rfl) (by kernel_rfl) (fun _ _ _ h => h) (by kernel_rfl) (fun w hSw => by go_simp <;> with_reducible rfl) hHeld ?_
          try simp only [Act.put, List.setIfInBounds_toArray, List.set_cons_zero, List.set_cons_succ]
          refine take_yes 25 123 _ rfl rfl (by kernel_rfl) (by kernel_rfl) (by kernel_rfl) (fun _ _ _ h => h) (by kernel_rfl) (fun w hSw => by go_simp <;> with_reducible rfl) hHeld ?_
          try simp only [Act.put, List.setIfInBounds_toArray, List.set_cons_zero, List.set_cons_succ]
          refine take_yes 26 124 _ rfl rfl (by kernel_rfl) (by kernel_rfl) (by kernel_rfl) (fun _ _ _ h => h) (by kernel_rfl) (fun w hSw => by obtain ⟨_, hc1, hc2⟩ := hSw; go_simp <;> with_reducible rfl) hHeld ?_
          try simp only [Act.put, List.setIfInBounds_toArray, List.set_cons_zero, List.set_cons_succ]
          refine take_yes 27 125 _ rfl rfl (by kernel_rfl) (by kernel_rfl) (by kernel_rfl) (fun _ _ _ h => h) (by kernel_rfl) (fun w hSw => by go_simp <;> with_reducible rfl) hHeld ?_
          try simp only [Act.put, List.setIfInBounds_toArray, List.set_cons_zero, List.set_cons_succ]
          refine take_yes 28 126 _ rfl rfl (by kernel_rfl) (by kernel_rfl) (by kernel_rfl) (fun _ _ _ h => h) (by kernel_rfl) (fun w hSw => by go_simp <;> with_reducible rfl) hHeld ?_
          try simp only [Act.put, List.setIfInBounds_toArray, List.set_cons_zero, List.set_cons_succ]
          refine take_yes 29 127 _ rfl rfl (by kernel_rfl) (by kernel_rfl) (by kernel_rfl) (fun _ _ _ h => h) (by kernel_rfl) (fun w hSw => by go_simp <;> with_reducible rfl) hHeld ?_
          try simp only [Act.put, List.setIfInBounds_toArray, List.set_cons_zero, List.set_cons_succ]
          refine take_yes 30 128 _ rfl rfl (by kernel_rfl) (by kernel_rfl) (by kernel_rfl) (fun _ _ _ h => h) (by kernel_rfl) (fun w hSw => by go_simp <;> with_reducible rfl) hHeld ?_
          try simp only [Act.put, List.setIfInBounds_toArray, List.set_cons_zero, List.set_cons_succ]
          refine take_yes 32 130 _ rfl rfl (by kernel_rfl) (by kernel_rfl) (by kernel_rfl) (fun _ _ _ h => h) (by kernel_rfl) (fun w hSw => by go_simp <;> with_reducible rfl) hHeld ?_
          try simp only [Act.put, List.setIfInBounds_toArray, List.set_cons_zero, List.set_cons_succ]
          refine wpAnyH_ready (rs := [31]) (by kernel_rfl) (by simp) ?_
          refine AllReadyH.cons rfl (fun K hK => ?_) AllReadyH.nil
          go_simp
          with_reducible refine (HNX.out _ hHeld.b).mono ?_
          rintro e w7 ⟨A7, cap7, rfl, _, _, HR7, _, h7⟩
          go_wp2_with fail
          refine hK.out _ _ (hHeld.bel h7) (fun hHeld => ?_)
          clear hK K
          try simp only [Act.put, List.setIfInBounds_toArray, List.set_cons_zero, List.set_cons_succ]
          refine wpAnyH_ready (rs := [33]) (by kernel_rfl) (by simp) ?_
          refine AllReadyH.cons rfl (fun K hK => ?_) AllReadyH.nil
          go_simp
          with_reducible refine (HNY.out _ hHeld.b).mono ?_
          rintro e w8 ⟨A8, cap8, rfl, _, _, HR8, _, h8⟩
          have HR7' := Lib.hid ((HR7.out.bel h8).here)
          go_wp2_with fail
          refine hK.out _ _ (hHeld.bel h8) (fun hHeld => ?_)
          clear hK K
          try simp only [Act.put, List.setIfInBounds_toArray, List.set_cons_zero, List.set_cons_succ]
          refine wpAnyH_ready (rs := [34]) (by kernel_rfl) (by simp) ?_
          refine AllReadyH.cons rfl (fun K hK => ?_) AllReadyH.nil
          go_simp
          with_reducible refine (HE.out _ A7 A8 cap7 cap8 false HR7'.out HR8.out HBB.out).mono ?_
          rintro e w9 ⟨rfl, q9, rfl⟩
          go_wp2_with fail
          refine hK.out _ _ (hHeld.bel ((Bel.refl _).drewN q9)) (fun hHeld => ?_)
          clear hK K
          try simp only [Act.put, List.setIfInBounds_toArray, List.set_cons_zero, List.set_cons_succ]
          refine take_yes 35 133 _ rfl rfl (by kernel_rfl) (by kernel_rfl) (by kernel_rfl) (fun _ _ _ h => h) (by kernel_rfl) (fun w hSw => by go_simp <;> with_reducible rfl) hHeld ?_
          try simp only [Act.put, List.setIfInBounds_toArray, List.set_cons_zero, List.set_cons_succ]
          refine take_yes 36 134 _ rfl rfl (by kernel_rfl) (by kernel_rfl) (by kernel_rfl) (fun _ _ _ h => h) (by kernel_rfl) (fun w hSw => by go_simp <;> with_reducible rfl) hHeld ?_
          try simp only [Act.put, List.setIfInBounds_toArray, List.set_cons_zero, List.set_cons_succ]
          refine take_yes 37 135 _ rfl rfl (by kernel_rfl) (by kernel_rfl) (by kernel_rfl) (fun _ _ _ h => h) (by kernel_rfl) (fun w hSw => by go_simp <;> with_reducible rfl) hHeld ?_
          try simp only [Act.put, List.setIfInBounds_toArray, List.set_cons_zero, List.set_cons_succ]
          refine take_yes 38 6 _ rfl rfl (by kernel_rfl) (by kernel_rfl) (by kernel_rfl) (fun _ _ _ h => h) (by kernel_rfl) (fun w hSw => by go_simp <;> with_reducible rfl) hHeld ?_
          try simp only [Act.put, List.setIfInBounds_toArray, List.set_cons_zero, List.set_cons_succ]
          refine wpAnyH_done (by kernel_rfl) ?_ _
          go_wp2
          go_ret
          exact ⟨rfl, HW5.out.trans hHeld.b⟩
      · have hd : (cu == cv) = false := by simpa using hcc
        have hd2 : (cu != cv) = true := by simpa using hcc
        have HBB : Hid (decide (X = Y) = true) := Lib.hid (by simpa using HSAME.out hcc)
        go_wp2_with fail
        refine wp_region_held_drew (S := MS w5 g off k k1 u v) (by kernel_rfl) (by exact HMS.out.bel ((Bel.refl _).drew)) (fun hHeld => ?_)
        refine wpAnyH_ready (rs := [0]) (by kernel_rfl) (by simp) ?_
        refine AllReadyH.cons rfl (fun K hK => ?_) AllReadyH.nil
        go_simp
        with_reducible refine (HA.out _ hHeld.b).mono ?_
        rintro e w6 ⟨rfl, h6⟩
        go_wp2_with fail
        refine hK.out _ _ (hHeld.bel h6) (fun hHeld => ?_)
        clear hK K
        try simp only [Act.put, List.setIfInBounds_toArray, List.set_cons_zero, List.set_cons_succ]
        refine take_yes 1 99 _ rfl rfl (by kernel_rfl) (by kernel_rfl) (by kernel_rfl) (fun _ _ _ h => h) (by kernel_rfl) (fun w hSw => by go_simp <;> with_reducible rfl) hHeld ?_
        try simp only [Act.put, List.setIfInBounds_toArray, List.set_cons_zero, List.set_cons_succ]
        refine take_yes 2 100 _ rfl rfl (by kernel_rfl) (by kernel_rfl) (by kernel_rfl) (fun _ _ _ h => h) (by kernel_rfl) (fun w hSw => by go_simp <;> with_reducible rfl) hHeld ?_
        try simp only [Act.put, List.setIfInBounds_toArray, List.set_cons_zero, List.set_cons_succ]
        refine take_yes 3 101 _ rfl rfl (by kernel_rfl) (by kernel_rfl) (by kernel_rfl) (fun _ _ _ h => h) (by kernel_rfl) (fun w hSw => by go_simp <;> with_reducible rfl) hHeld ?_
        try simp only [Act.put, List.setIfInBounds_toArray, List.set_cons_zero, List.set_cons_succ]
        refine take_yes 4 102 _ rfl rfl (by kernel_rfl) (by kernel_rfl) (by kernel_rfl) (fun _ _ _ h => h) (by kernel_rfl) (fun w hSw => by go_simp <;> with_reducible rfl) hHeld ?_
        try simp only [Act.put, List.setIfInBounds_toArray, List.set_cons_zero, List.set_cons_succ]
        refine take_yes 5 103 _ rfl rfl (by kernel_rfl) (by kernel_rfl) (by kernel_rfl) (fun _ _ _ h => h) (by kernel_rfl) (fun w hSw => by go_simp <;> with_reducible rfl) hHeld ?_
        try simp only [Act.put, List.setIfInBounds_toArray, List.set_cons_zero, List.set_cons_succ]
        refine take_yes 6 104 _ rfl rfl (by kernel_rfl) (by kernel_rfl) (by kernel_rfl) (fun _ _ _ h => h) (by kernel_rfl) (fun w hSw => by go_simp <;> with_reducible rfl) hHeld ?_
        try simp only [Act.put, List.setIfInBounds_toArray, List.set_cons_zero, List.set_cons_succ]
        refine take_yes 8 106 _ rfl rfl (by kernel_rfl) (by kernel_rfl) (by kernel_rfl) (fun _ _ _ h => h) (by kernel_rfl) (fun w hSw => by go_simp <;> with_reducible rfl) hHeld ?_
        try simp only [Act.put, List.setIfInBounds_toArray, List.set_cons_zero, List.set_cons_succ]
        refine wpAnyH_ready (rs := [7]) (by kernel_rfl) (by simp) ?_
        refine AllReadyH.cons rfl (fun K hK => ?_) AllReadyH.nil
        go_simp
        with_reducible refine (HNX.out _ hHeld.b).mono ?_
        rintro e w7 ⟨A7, cap7, rfl, _, _, HR7, _, h7⟩
        go_wp2_with fail
        refine hK.out _ _ (hHeld.bel h7) (fun hHeld => ?_)
        clear hK K
        try simp only [Act.put, List.setIfInBounds_toArray, List.set_cons_zero, List.set_cons_succ]
        refine wpAnyH_ready (rs := [9]) (by kernel_rfl) (by simp) ?_
        refine AllReadyH.cons rfl (fun K hK => ?_) AllReadyH.nil
        go_simp
        with_reducible refine (HNY.out _ hHeld.b).mono ?_
        rintro e w8 ⟨A8, cap8, rfl, _, _, HR8, _, h8⟩
        have HR7' := Lib.hid ((HR7.out.bel h8).here)
        go_wp2_with fail
        refine hK.out _ _ (hHeld.bel h8) (fun hHeld => ?_)
        clear hK K
        try simp only [Act.put, List.setIfInBounds_toArray, List.set_cons_zero, List.set_cons_succ]
        refine wpAnyH_ready (rs := [10]) (by kernel_rfl) (by simp) ?_
        refine AllReadyH.cons rfl (fun K hK => ?_) AllReadyH.nil
        go_simp
        with_reducible refine (HE.out _ A7 A8 cap7 cap8 true HR7'.out HR8.out HBB.out).mono ?_
        rintro e w9 ⟨rfl, q9, rfl⟩
        go_wp2_with fail
        refine hK.out _ _ (hHeld.bel ((Bel.refl _).drewN q9)) (fun hHeld => ?_)
        clear hK K
        try simp only [Act.put, List.setIfInBounds_toArray, List.set_cons_zero, List.set_cons_succ]
        refine take_yes 11 109 _ rfl rfl (by kernel_rfl) (by kernel_rfl) (by kernel_rfl) (fun _ _ _ h => h) (by kernel_rfl) (fun w hSw => by go_simp <;> with_reducible rfl) hHeld ?_
        try simp only [Act.put, List.setIfInBounds_toArray, List.set_cons_zero, List.set_cons_succ]
        refine take_yes 12 110 _ rfl rfl (by kernel_rfl) (by kernel_rfl) (by kernel_rfl) (fun _ _ _ h => h) (by kernel_rfl) (fun w hSw => by go_simp <;> with_reducible rfl) hHeld ?_
        try simp only [Act.put, List.setIfInBounds_toArray, List.set_cons_zero, List.set_cons_succ]
        refine take_yes 13 111 _ rfl rfl (by kernel_rfl) (by kernel_rfl) (by kernel_rfl) (fun _ _ _ h => h) (by kernel_rfl) (fun w hSw => by go_simp <;> with_reducible rfl) hHeld ?_
        try simp only [Act.put, List.setIfInBounds_toArray, List.set_cons_zero, List.set_cons_succ]
        refine take_yes 14 112 _ rfl rfl (by kernel_rfl) (by kernel_rfl) (by kernel_rfl) (fun _ _ _ h => h) (by kernel_rfl) (fun w hSw => by go_simp <;> with_reducible rfl) hHeld ?_
        try simp only [Act.put, List.setIfInBounds_toArray, List.set_cons_zero, List.set_cons_succ]
        refine take_yes 15 113 _ rfl rfl (by kernel_rfl) (by kernel_rfl) (by kernel_rfl) (fun _ _ _ h => h) (by kernel_rfl) (fun w hSw => by go_simp <;> with_reducible rfl) hHeld ?_
        try simp only [Act.put, List.setIfInBounds_toArray, List.set_cons_zero, List.set_cons_succ]
        refine take_yes 16 114 _ rfl rfl (by kernel_rfl) (by kernel_rfl) (by kernel_rfl) (fun _ _ _ h => h) (by kernel_rfl) (fun w hSw => by go_simp <;> with_reducible rfl) hHeld ?_
        try simp only [Act.put, List.setIfInBounds_toArray, List.set_cons_zero, List.set_cons_succ]
        refine take_yes 17 115 _ rfl rfl (by kernel_rfl) (by kernel_rfl) (by kernel_rfl) (fun _ _ _ h => h) (by kernel_rfl) (fun w hSw => by go_simp <;> with_reducible rfl) hHeld ?_
        try simp only [Act.put, List.setIfInBounds_toArray, List.set_cons_zero, List.set_cons_succ]
        refine take_no 18 116 rfl rfl (by kernel_rfl) (by kernel_rfl) (by kernel_rfl) (fun _ _ _ h => h) (by kernel_rfl) hHeld ?_
        try simp only [Act.put, List.setIfInBounds_toArray, List.set_cons_zero, List.set_cons_succ]
        refine take_no 19 117 rfl rfl (by kernel_rfl) (by kernel_rfl) (by kernel_rfl) (fun _ _ _ h => h) (by kernel_rfl) hHeld ?_
        try simp only [Act.put, List.setIfInBounds_toArray, List.set_cons_zero, List.set_cons_succ]
        refine take_no 20 118 rfl rfl (by kernel_rfl) (by kernel_rfl) (by kernel_rfl) (fun _ _ _ h => h) (by kernel_rfl) hHeld ?_
        try simp only [Act.put, List.setIfInBounds_toArray, List.set_cons_zero, List.set_cons_succ]
        refine take_no 21 119 rfl rfl (by kernel_rfl) (by kernel_rfl) (by kernel_rfl) (fun _ _ _ h => h) (by kernel_rfl) hHeld ?_
        try simp only [Act.put, List.setIfInBounds_toArray, List.set_cons_zero, List.set_cons_succ]
        refine take_no 22 120 rfl rfl (by kernel_rfl) (by kernel_rfl) (by kernel_rfl) (fun _ _ _ h => h) (by kernel_rfl) hHeld ?_
        try simp only [Act.put, List.setIfInBounds_toArray, List.set_cons_zero, List.set_cons_succ]
        refine take_no 23 121 rfl rfl (by kernel_rfl) (by kernel_rfl) (by kernel_rfl) (fun _ _ _ h => h) (by kernel_rfl) hHeld ?_
        try simp only [Act.put, List.setIfInBounds_toArray, List.set_cons_zero, List.set_cons_succ]
        refine take_no 24 122 rfl rfl (by kernel_rfl) (by kernel_rfl) (by kernel_rfl) (fun _ _ _ h => h) (by kernel_rfl) hHeld ?_
        try simp only [Act.put, List.setIfInBounds_toArray, List.set_cons_zero, List.set_cons_succ]
        refine take_no 25 123 rfl rfl (by kernel_rfl) (by kernel_rfl) (by kernel_rfl) (fun _ _ _ h => h) (by kernel_rfl) hHeld ?_
        try simp only [Act.put, List.setIfInBounds_toArray, List.set_cons_zero, List.set_cons_succ]
        refine take_no 26 124 rfl rfl (by kernel_rfl) (by kernel_rfl) (by kernel_rfl) (fun _ _ _ h => h) (by kernel_rfl) hHeld ?_
        try simp only [Act.put, List.setIfInBounds_toArray, List.set_cons_zero, List.set_cons_succ]
        refine take_no 27 125 rfl rfl (by kernel_rfl) (by kernel_rfl) (by kernel_rfl) (fun _ _ _ h => h) (by kernel_rfl) hHeld ?_
        try simp only [Act.put, List.setIfInBounds_toArray, List.set_cons_zero, List.set_cons_succ]
        refine take_yes 28 126 _ rfl rfl (by kernel_rfl) (by kernel_rfl) (by kernel_rfl) (fun _ _ _ h => h) (by kernel_rfl) (fun w hSw => by go_simp <;> with_reducible rfl) hHeld ?_
        try simp only [Act.put, List.setIfInBounds_toArray, List.set_cons_zero, List.set_cons_succ]
        refine take_yes 29 127 _ rfl rfl (by kernel_rfl) (by kernel_rfl) (by kernel_rfl) (fun _ _ _ h => h) (by kernel_rfl) (fun w hSw => by go_simp <;> with_reducible rfl) hHeld ?_
        try simp only [Act.put, List.setIfInBounds_toArray, List.set_cons_zero, List.set_cons_succ]
        refine take_no 30 128 rfl rfl (by kernel_rfl) (by kernel_rfl) (by kernel_rfl) (fun _ _ _ h => h) (by kernel_rfl) hHeld ?_
        try simp only [Act.put, List.setIfInBounds_toArray, List.set_cons_zero, List.set_cons_succ]
        refine take_no 32 130 rfl rfl (by kernel_rfl) (by kernel_rfl) (by kernel_rfl) (fun _ _ _ h => h) (by kernel_rfl) hHeld ?_
        try simp only [Act.put, List.setIfInBounds_toArray, List.set_cons_zero, List.set_cons_succ]
        refine take_no 31 129 rfl rfl (by kernel_rfl) (by kernel_rfl) (by kernel_rfl) (fun _ _ _ h => h) (by kernel_rfl) hHeld ?_
        try simp only [Act.put, List.setIfInBounds_toArray, List.set_cons_zero, List.set_cons_succ]
        refine take_no 33 131 rfl rfl (by kernel_rfl) (by kernel_rfl) (by kernel_rfl) (fun _ _ _ h => h) (by kernel_rfl) hHeld ?_
        try simp only [Act.put, List.setIfInBounds_toArray, List.set_cons_zero, List.set_cons_succ]
        refine take_no 34 132 rfl rfl (by kernel_rfl) (by kernel_rfl) (by kernel_rfl) (fun _ _ _ h => h) (by kernel_rfl) hHeld ?_
        try simp only [Act.put, List.setIfInBounds_toArray, List.set_cons_zero, List.set_cons_succ]
        refine take_no 35 133 rfl rfl (by kernel_rfl) (by kernel_rfl) (by kernel_rfl) (fun _ _ _ h => h) (by kernel_rfl) hHeld ?_
        try simp only [Act.put, List.setIfInBounds_toArray, List.set_cons_zero, List.set_cons_succ]
        refine take_yes 36 134 _ rfl rfl (by kernel_rfl) (by kernel_rfl) (by kernel_rfl) (fun _ _ _ h => h) (by kernel_rfl) (fun w hSw => by go_simp <;> with_reducible rfl) hHeld ?_
        try simp only [Act.put, List.setIfInBounds_toArray, List.set_cons_zero, List.set_cons_succ]
        refine take_yes 37 135 _ rfl rfl (by kernel_rfl) (by kernel_rfl) (by kernel_rfl) (fun _ _ _ h => h) (by kernel_rfl) (fun w hSw => by go_simp <;> with_reducible rfl) hHeld ?_
        try simp only [Act.put, List.setIfInBounds_toArray, List.set_cons_zero, List.set_cons_succ]
        refine take_yes 38 6 _ rfl rfl (by kernel_rfl) (by kernel_rfl) (by kernel_rfl) (fun _ _ _ h => h) (by kernel_rfl) (fun w hSw => by go_simp <;> with_reducible rfl) hHeld ?_
        try simp only [Act.put, List.setIfInBounds_toArray, List.set_cons_zero, List.set_cons_succ]
        refine wpAnyH_done (by kernel_rfl) ?_ _
        go_wp2
        go_ret
        exact ⟨rfl, HW5.out.trans hHeld.b⟩
end Go.Proofs.YtagcaloocdgmhaaDoor.U
