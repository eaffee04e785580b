/- What the reference's Orders answers: the same list. What the law of all orders wants of them: an order of marks is the same text, behind a letter. Plain mathematics. The law of all orders. NfdOrder answers true at any list; nothing that was there is changed. The law of all orders, of at most six marks. -/
import Derived.Test.YtipigfgnpfhdbaaGreatDoorM13
import Derived.Test.YtipigfgnpfhdbaaGreatDoorM14
import Derived.Test.YtipigfgnpfhdbaaGreatDoorM12
import Derived.Deep.RegionLaw
import Derived.Test.YtipigfgnpfhdbaaGreatDoorM9
import Derived.Test.YtipigfgnpfhdbaaGreatDoorM8
import Derived.Deep.RegionHeld3
import Derived.BigQuiet
namespace Go.Proofs.YtipigfgnpfhdbaaGreatDoor.K
open Go.RowKit U F
set_option linter.unusedVariables false

theorem pf_any (t : List Int) (c : Int) : (pf cls t).any (fun f => cls f == c) = t.any (fun f => cls f == c) := by
  rw [Bool.eq_iff_iff, List.any_eq_true, List.any_eq_true]
  have hm := pf_mem (cls := cls) t.length t rfl
  have hx := firstOf_ex (cls := cls) (c := c) (l := t)
  constructor
  · rintro ⟨x, h1, h⟩
    exact ⟨x, ((hm x).1 h1).mem, h⟩
  · rintro ⟨x, h1, h⟩
    obtain ⟨y, hy, hc⟩ := hx.2 (fun e => by
      have h2 : x ∈ ofC cls c t := List.mem_filter.2 ⟨h1, by simpa using h⟩
      rw [e] at h2
      cases h2)
    exact ⟨y, (hm y).2 hy, by simp [hc]⟩
theorem pf_next {l : List Int} {i : Nat} {m : Int} (h : l[i]? = some m) : pf cls (l.take (i + 1)) = if (l.take i).any (fun f => cls f == cls m) = true then pf cls (l.take i) else pf cls (l.take i) ++ [m] := by
  rw [List.take_add_one, h, Option.toList_some, pf_snoc, addF, pf_any]
theorem cut_at {l : List Int} {i : Nat} {m : Int} (h : l[i]? = some m) (hn : (l.take i).any (fun f => cls f == cls m) = false) : l.take i ++ l.drop (i + 1) = l.erase m := by
  rw [erase_at h (fun y hy e => by
    subst e
    have := List.any_eq_false.1 hn y hy
    simp at this), List.eraseIdx_eq_take_drop_succ]
theorem any_next {l : List Int} {i : Nat} {x c : Int} (h : l[i]? = some x) : (l.take (i + 1)).any (fun f => cls f == c) = ((l.take i).any (fun f => cls f == c) || (cls x == c)) := by
  rw [List.take_add_one, h, Option.toList_some, List.any_append]
  simp
theorem step_append {P : Program} {w : World} {ops : Array Oper} {o : Oper} {a : Act} {K : Act → World → Prop} {Q : Exit → Act → World → Prop} {E : Prop} (hg : o.guard = none) (s x : Operand) (t : TypeId)
    (ho : o.op = .call { callee := .builtin .append, args := #[s, x], argTypes := #[t, t] })
    {e : TypeId} {base : Nat} {i : TypeInfo} {z : Value} {bytes : Nat} (ht : P.underlying t = some (.slice e)) (hi : P.info? e = some i) (hz : i.zero = some z)
    (hsize : i.size = 1) (hby : i.bytes = bytes) (hzs : z.cells.size = 1) (hb8 : bytes ≤ 8)
    {k : IntKind} {v : Value} {xs : List Int} (hown : U.Own w base e k v xs) (hs : a.eval s = v)
    {B : Nat} {A : Option Addr} {m c : Nat} {ys : List Int} (hr : U.Rd w B k A ys) (hx : a.eval x = .slice A m c) (hm : ys.length = m) (hnil : A = none → c = 0)
    (hn : xs.length + m ≤ 1099511627776) (hbase : base ≤ w.heap.size)
    (h : ∀ v' w', U.Own w' base e k v' (xs ++ ys) → Below base w w' → K (a.put o.dst v') w') : if Region.wanted o (yielded ops a.tmps) = true then o.wp P a w K Q else E := by
  have hw : Region.wanted o (yielded ops a.tmps) = true := by simp [Region.wanted, hg]
  rw [if_pos hw]
  exact F.wp_append s x t ho ht hi hz hsize hby hzs hb8 hown hs hr hx hm hnil hn hbase h
theorem step_append_l {w : World} {ops : Array Oper} {o : Oper} {a : Act} {K : Act → World → Prop} {Q : Exit → Act → World → Prop} {E : Prop} (hg : o.guard = none) (s x : Operand)
    (ho : o.op = .call { callee := .builtin .append, args := #[s, x], argTypes := #[33, 33] })
    {base : Nat} {v u : Value} {L : List (List Int)} {l : List Int} (hown : LOwn w base v L) (hs : a.eval s = v) {g c : Nat} (hx : a.eval x = .slice (some ⟨g, 0, none⟩) 1 c) (hc : w.cell? ⟨g, 0, none⟩ = some u)
    (hu : U.Own w base 21 .i32 u l) (hn : L.length + 1 ≤ 1000000) (hbase : base ≤ w.heap.size)
    (h : ∀ v' w', LOwn w' base v' (L ++ [l]) → Below base w w' → w.grownBy w' v.ownBlock → (v'.ownBlock = v.ownBlock ∨ v'.ownBlock = some w.heap.size) → K (a.put o.dst v') w') : if Region.wanted o (yielded ops a.tmps) = true then o.wp Tryz.prog a w K Q else E := by
  have hw : Region.wanted o (yielded ops a.tmps) = true := by simp [Region.wanted, hg]
  rw [if_pos hw]
  exact wp_append_l s x ho hown hs hx hc hu hn hbase h

theorem meas_up {j k : Nat} (h : j < k) (hs : j < 1000000) : k - (wrap64 ((j : Int) + 1)).toNat < k - j := by
  unfold wrap64
  omega
theorem rd_tail {w : World} {C g off n c k : Nat} {kd : IntKind} {l : List Int} (h : U.Rd w C kd (some ⟨g, off, none⟩) l) (hl : l.length = n) (hc : n ≤ c) : U.Rd w C kd (if c = k then some ⟨g, off, none⟩ else some ⟨g, off + k, none⟩) (l.drop k) := by
  split
  · rw [List.drop_eq_nil_of_le (by omega)]
    exact fun i x hx => by simp at hx
  · exact h.drop
theorem tail_nil {c k c' : Nat} {a b : Addr} : (if c = k then some a else some b) = none → c' = 0 := by
  split <;> intro h <;> cases h
def FiR (w0 : World) (p : List Int) (c : Int) (b k : Value) (wr : World) : Prop :=
  ∃ (t : Bool) (j : Nat), b = .bool t ∧ k = .int .i64 j ∧ j ≤ p.length ∧ Hid (t = !(p.take j).any (fun f => cls f == c)) ∧ Hid (Gr w0 wr)
def RefRel (w : World) (l : List Int) (b : Nat) (v i : Value) (wr : World) : Prop :=
  ∃ k : Nat, i = .int .i64 k ∧ k ≤ l.length ∧ Hid (LOwn wr w.heap.size v ((pf cls (l.take k)).flatMap (begun l)) ∧ Bel w wr ∧ ∀ m ∈ pf cls (l.take k), IsOrders cls (l.erase m) (ordersOf (l.erase m)) ∧ (ordersOf (l.erase m)).length ≤ b)
def RefIn (w : World) (P L : List (List Int)) (m : Int) (u : Value) (v i : Value) (wr : World) : Prop :=
  ∃ j : Nat, i = .int .i64 j ∧ j ≤ L.length ∧ Hid (LOwn wr w.heap.size v (P ++ (L.take j).map (m :: ·)) ∧ LOwn wr w.heap.size u L ∧ (∀ k, v.ownBlock = some k → u.ownBlock ≠ some k) ∧ Bel w wr)
def SoRel (w : World) (v : Value) (L0 : List (List Int)) (i : Value) (wr : World) : Prop :=
  ∃ k : Nat, i = .int .i64 k ∧ k ≤ L0.length + 1 ∧ Hid (∃ L, LOwn wr w.heap.size v L ∧ L.Perm L0 ∧ SrL (L.take k) ∧ Bel w wr)
def SiRel (w : World) (v : Value) (L0 : List (List Int)) (i : Nat) (k : Value) (wr : World) : Prop :=
  ∃ j : Nat, k = .int .i64 j ∧ j ≤ i ∧ Hid (∃ L, LOwn wr w.heap.size v L ∧ Ins L0 i j L ∧ Bel w wr)
theorem infoR0 : (Tryz.prog.info? 21).map (fun i => (i.zero, i.size, i.bytes)) = some (some (.int .i32 0), 1, 4) := by kernel_rfl
theorem rd_cell {w w' : World} {C : Nat} {g off : Nat} {l : List Int} (h : U.Rd w C .i32 (some ⟨g, off, none⟩) l) (hb : Bel w w') {j : Nat} {x : Int} (hx : l[j]? = some x) : w'.cell? ⟨g, off + j, none⟩ = some (.int .i32 x) := by
  obtain ⟨g1, o1, e, _, hc⟩ := (h.bel hb) j x hx
  cases e
  exact hc

set_option maxRecDepth 100000 in
set_option maxHeartbeats 8000000 in
theorem rorders_some (n : Nat) (l : List Int) (A : Option Addr) (c C : Nat) (w : World) (hl : l.length = n + 1) (hc : n + 1 ≤ c) (hn : n ≤ 5) (hr : U.Rd w C .i32 A l) (hf : F.Fit l)
    (IH : ∀ (t : List Int) (A : Option Addr) (c C : Nat) (w : World), t.length = n → n ≤ c → U.Rd w C .i32 A t → F.Fit t → Calls Tryz.prog 13 #[.slice A n c] w (OrdersP w t)) :
    Calls Tryz.prog 13 #[.slice A (n + 1 : Nat) c] w (OrdersP w l) := by
  obtain ⟨i0, hi0, hz0, hz1, hz2⟩ := info_parts infoR0
  have hne : l ≠ [] := fun e => by rw [e] at hl; simp at hl
  obtain ⟨g0, off0, rfl, _, _⟩ := hr.isSome (by omega)
  have HR := Lib.hid hr
  have HF := Lib.hid hf
  have HI := Lib.hid IH
  have HL := Lib.hid (And.intro hl hne)
  have HP7 := Lib.hid (pow7 hn)
  have hmx := F.mixed
  have p1 : (((n + 1 : Nat) : Int) == 0) = false := by simp; omega
  obtain ⟨n1, hn1⟩ : ∃ n1, n + 1 = n1 := ⟨_, rfl⟩
  rw [hn1] at p1 hc hl ⊢
  have HN1 := Lib.hid hn1
  have HC := Lib.hid (And.intro hc (And.intro hn hl))
  clear hr hf IH hl hne hn1 hn hc
  go_enter Tryz.func13, Tryz.ntmps13
  go_wp2
  go_loopw [3, 4] (fun v i wr => RefRel w l (7 ^ n) v i wr) (fun v i _ => n1 - (intOf i).toNat)
  case atStart => exact ⟨0, rfl, Nat.zero_le _, Lib.hid ⟨by simpa [pf] using LOwn.nil _ _, Bel.refl _, fun m hm => by simp [pf] at hm⟩⟩
  case round =>
    obtain ⟨k, rfl, hk, HK⟩ := hrel
    rw [HC.out.2.2] at hk
    by_cases hlt : k < n1
    · obtain ⟨m, hm⟩ : ∃ m, l[k]? = some m := ⟨l[k]'(by rw [HC.out.2.2]; exact hlt), by simp⟩
      obtain ⟨cm, hcm⟩ : ∃ c, cls m = c := ⟨_, rfl⟩
      have q0 : (0 : Int) ≤ (k : Int) := by omega
      have q1 : (k : Int) < (n1 : Int) := by omega
      have HM := Lib.hid hm
      have HCM := Lib.hid hcm
      have hpl : (l.take k).length = k := by rw [List.length_take, HC.out.2.2]; omega
      have HPL := Lib.hid hpl
      have HLT := Lib.hid hlt
      clear hk hm hcm hpl hlt
      generalize wr = wo at HK ⊢
      clear wr
      go_wp2
      go_loopw [5, 6] (fun b j wi => FiR wo (l.take k) cm b j wi) (fun b j _ => k - (intOf j).toNat)
      case atStart => exact ⟨true, 0, rfl, rfl, Nat.zero_le _, Lib.hid (by simp), Lib.hid (Gr.refl _)⟩
      case round =>
        obtain ⟨t, j, rfl, rfl, hj, HT, HG⟩ := hrel
        rw [HPL.out] at hj
        by_cases hjk : j < k
        · obtain ⟨x, hx⟩ : ∃ x, l[j]? = some x := ⟨l[j]'(by rw [HC.out.2.2]; have := HLT.out; omega), by simp⟩
          obtain ⟨cx, hcx⟩ : ∃ c, cls x = c := ⟨_, rfl⟩
          have hxt : (l.take k)[j]? = some x := by rw [List.getElem?_take, if_pos hjk]; exact hx
          have fx := HF.out x (List.mem_of_getElem? hx)
          have fm := HF.out m (List.mem_of_getElem? HM.out)
          have hB : Bel w wr := HK.out.2.1.trans HG.out.bel
          have la : ∀ (n : Nat) (os : Array Obj), (Sort.grow (wr.drewN n) os).cell? ⟨g0, off0 + j, none⟩ = some (.int .i32 x) := fun n os => cell_bel (rd_cell HR.out hB hx) (Gr.bel ⟨n, os, rfl⟩)
          have lb : ∀ (n : Nat) (os : Array Obj), (Sort.grow (wr.drewN n) os).cell? ⟨g0, off0 + k, none⟩ = some (.int .i32 m) := fun n os => cell_bel (rd_cell HR.out hB HM.out) (Gr.bel ⟨n, os, rfl⟩)
          have ha := F.rclass_at x cx wr fx hcx
          have hb := F.rclass_at m cm wr fm HCM.out
          have r0 : (0 : Int) ≤ (j : Int) := by omega
          have r1 : (j : Int) < (k : Int) := by omega
          have r2 : (j : Int) < (n1 : Int) := by omega
          have r3 : (j : Int) < 7 := by have h1 := HC.out.2.1; have h2 := HN1.out; omega
          have HX := Lib.hid (And.intro hxt hcx)
          have HJ := Lib.hid hjk
          have hjm : k - (j + 1) < k - j := by omega
          have HJM := Lib.hid hjm
          clear hx hcx hxt fx fm hB hj hjk hjm
          cases t with
          | true =>
            go_wp2_with fail
            go_quiet_grown (first | (go_at_call_of 12 x; with_reducible refine Calls.grown_of (ha _ _)) | (go_at_call_of 12 m; with_reducible refine Calls.grown_of (hb _ _)))
            have HG2 : Hid (Gr wo (Sort.grow (wr.drewN nq) osq)) := Lib.hid (HG.out.trans ⟨nq, osq, rfl⟩)
            clear la lb ha hb HG
            generalize Sort.grow (wr.drewN nq) osq = w2 at HG2 ⊢
            go_wp2
            go_roundw
            case rel => exact ⟨_, j + 1, rfl, by go_num, by rw [HPL.out]; exact HJ.out, Lib.hid (by
              rw [any_next HX.out.1, HX.out.2]
              have := HT.out
              generalize ((l.take k).take j).any (fun f => cls f == cm) = a at this ⊢
              cases a <;> simp at this ⊢
              rfl), HG2⟩
            case measure => simp [intOf]; exact HJM.out
          | false =>
            go_wp2_with fail
            go_quiet (fail)
            have HG2 : Hid (Gr wo (wr.drewN nq)) := Lib.hid (HG.out.drewN nq)
            clear la lb ha hb HG
            generalize wr.drewN nq = w2 at HG2 ⊢
            go_wp2
            go_roundw
            case rel => exact ⟨false, j + 1, rfl, by go_num, by rw [HPL.out]; exact HJ.out, Lib.hid (by
              rw [any_next HX.out.1, HX.out.2]
              have := HT.out
              generalize ((l.take k).take j).any (fun f => cls f == cm) = a at this ⊢
              cases a <;> simp at this ⊢), HG2⟩
            case measure => simp [intOf]; exact HJM.out
        · obtain rfl : j = k := by omega
          have q2 : ¬ (j : Int) < (j : Int) := by omega
          have HB := Lib.hid (HK.out.2.1.trans HG.out.bel)
          have ht : t = !(l.take j).any (fun f => cls f == cm) := by
            have h := HT.out
            rwa [List.take_of_length_le (by rw [HPL.out]; exact Nat.le_refl _)] at h
          have r3 : (j : Int) < 7 := by have h1 := HC.out.2.1; have h2 := HN1.out; omega
          have HV := Lib.hid (HK.out.1.keep HG.out.bel)
          have HALL := Lib.hid HK.out.2.2
          cases t with
          | false =>
            have hpn : pf cls (l.take (j + 1)) = pf cls (l.take j) := by
              rw [pf_next HM.out, HCM.out]
              rw [if_pos]
              generalize (l.take j).any (fun f => cls f == cm) = a at ht ⊢
              cases a <;> simp at ht ⊢
            have HF2 : Hid (LOwn wr w.heap.size u3 ((pf cls (l.take (j + 1))).flatMap (begun l)) ∧ Bel w wr ∧ ∀ m ∈ pf cls (l.take (j + 1)), IsOrders cls (l.erase m) (ordersOf (l.erase m)) ∧ (ordersOf (l.erase m)).length ≤ 7 ^ n) := Lib.hid (by rw [hpn]; exact ⟨HV.out, HB.out, HALL.out⟩)
            have hm1 : n1 - (j + 1) < n1 - j := by have := HLT.out; omega
            have HM1 := Lib.hid hm1
            clear ht hpn HT HG HK hj hjk hm1
            go_wp2
            go_roundw
            case rel => exact ⟨j + 1, by go_num, by rw [HC.out.2.2]; exact HLT.out, HF2⟩
            case measure => simp [intOf]; exact HM1.out
          | true =>
            have han : (l.take j).any (fun f => cls f == cm) = false := by
              generalize (l.take j).any (fun f => cls f == cm) = a at ht ⊢
              cases a <;> simp at ht ⊢
            have hcut := cut_at HM.out (by rw [HCM.out]; exact han)
            have hel : (l.erase m).length = n := by rw [List.length_erase_of_mem (List.mem_of_getElem? HM.out), HC.out.2.2]; have := HN1.out; omega
            have hfe : F.Fit (l.erase m) := fun x hx => HF.out x (List.mem_of_mem_erase hx)
            have hbw1 : Bel w (wr.alloc (.cells #[] 21)).drew := HB.out.trans ((Bel.refl wr).alloc _).drew
            have HO1 := Lib.hid ((U.Own.empty wr 21 .i32).keep ((Bel.refl _).drew))
            have HRa := Lib.hid ((HR.out.bel hbw1).take (k := j))
            have HCut := Lib.hid (And.intro hcut (And.intro hel hfe))
            have HBW := Lib.hid hbw1
            have hpn : pf cls (l.take (j + 1)) = pf cls (l.take j) ++ [m] := by rw [pf_next HM.out, HCM.out, if_neg (by rw [han]; simp)]
            have HPN := Lib.hid hpn
            have s3 : (n1 : Int) ≤ (c : Int) := by have := HC.out.1; omega
            have s0 : (j : Int) ≤ (c : Int) := by omega
            have s2 : (j : Int) + 1 ≤ (n1 : Int) := by omega
            have s4 : (0 : Int) ≤ (j : Int) + 1 := by omega
            have s1 : IntKind.i64.wrap ((j : Int) + 1) = (j : Int) + 1 := by rw [IntKind.wrap_i64]; omega
            clear ht hcut hel hfe hbw1 hpn han HT HG HK hj hjk
            have hn7 : n1 ≤ 7 := by have h1 := HC.out.2.1; have h2 := HN1.out; omega
            have hlen2 : ([] ++ l.take j : List Int).length + (n1 - (j + 1)) ≤ 1099511627776 := by rw [List.nil_append, HPL.out]; omega
            have HRb := Lib.hid (rd_tail (k := j + 1) (HR.out.bel HB.out) HC.out.2.2 HC.out.1)
            go_wp2_with fail
            go_region_law (first
                | (refine step_append (by rfl) (.tmp 43) (.tmp 46) 22 (by rfl) Tryz.underlying22 hi0 hz0 hz1 hz2 rfl (by omega) HO1.out (by rfl) HRa.out (by rfl) (by rw [HPL.out]) (fun e => by cases e) (by simp; omega) (by simp) ?_
                   intro v1 w2 hown1 hb1
                   have hb12 : Bel wr w2 := Below.trans ((Bel.refl wr).alloc _).drew hb1)
                | (refine step_append (by rfl) (.tmp 47) (.tmp 51) 22 (by rfl) Tryz.underlying22 hi0 hz0 hz1 hz2 rfl (by omega) hown1 (by rfl) (HRb.out.bel hb12) (by rfl) (by rw [List.length_drop, HC.out.2.2]) tail_nil hlen2 (Below.size hb12) ?_
                   intro v2 w3 hown2 hb2
                   rw [List.nil_append, HCut.out.1] at hown2
                   obtain ⟨A2, cap2, rfl, hcap2, hrd2, hnil2⟩ := hown2.rdn HCut.out.2.1
                   have hb13 : Bel wr w3 := Below.trans hb12 hb2)
                | (go_simp; go_at_call 13; refine (HI.out (l.erase m) A2 cap2 _ w3 HCut.out.2.1 hcap2 hrd2 HCut.out.2.2).mono ?_; rintro e w4 ⟨u, L, rfl, hL1, hL2, hL3, hb4⟩)
                | fail)
            obtain ⟨A3, cap3, rfl, _, _, _⟩ := hL2.rd
            rw [HCut.out.2.1] at hL3
            have hb14 : Bel wr w4 := hb13.trans hb4
            have HL1 := Lib.hid (And.intro hL1 hL3)
            have hsz3 := Below.size hb13
            have hszw := Below.size HB.out
            have H1 : Hid (LOwn w4 w.heap.size u3 ((pf cls (l.take j)).flatMap (begun l) ++ (L.take 0).map (m :: ·)) ∧ LOwn w4 w.heap.size (.slice A3 L.length cap3) L ∧ (∀ k, u3.ownBlock = some k → (Value.slice A3 L.length cap3).ownBlock ≠ some k) ∧ Bel w w4) := Lib.hid
              ⟨by simpa using HV.out.keep hb14, hL2.less (by omega), fun kk h1 h2 => by
                have h4 := (HV.out.lt kk h1).2
                have h5 := (hL2.lt kk h2).1
                omega, HB.out.trans hb14⟩
            clear hL1 hL2 hL3 hb4 hb12 hb13 hb14 hb1 hb2 hown1 hown2 hcap2 hrd2 hnil2 hsz3 hszw HO1 HRa HRb s0 s1 s2 s4 HV HB
            generalize (if c = j + 1 then some (Addr.mk g0 off0 none) else some (Addr.mk g0 (off0 + (j + 1)) none)) = q51
            go_wp2
            go_loopw [3, 8] (fun v i wi => RefIn w ((pf cls (l.take j)).flatMap (begun l)) L m (.slice A3 L.length cap3) v i wi) (fun v i _ => L.length - (intOf i).toNat)
            case atStart => exact ⟨0, rfl, Nat.zero_le _, H1⟩
            case round =>
              clear H1
              obtain ⟨i, rfl, hi, HJ⟩ := hrel
              by_cases hit : i < L.length
              · obtain ⟨o, ho⟩ : ∃ o, L[i]? = some o := ⟨L[i]'hit, by simp⟩
                obtain ⟨hJv, hJu, hJd, hJb⟩ := HJ.out
                obtain ⟨A3', cap3', e3, _, _, hcell⟩ := hJu.rd
                cases e3
                obtain ⟨g3, uo, rfl, hco, hOo⟩ := hcell i o ho
                obtain ⟨Ao, capo, rfl, hcapo, hro, hAo⟩ := hOo.rd
                have hcm := rd_cell HR.out hJb HM.out
                have hco2 : ((wr.alloc (.cells #[.int .i32 m] 21)).drew).cell? ⟨g3, i, none⟩ = some (.slice Ao o.length capo) := cell_bel hco ((Bel.refl wr).alloc _).drew
                have hol : o.length ≤ 6 := by
                  have h1 := ((HL1.out.1.2 o).1 (List.mem_of_getElem? ho)).len
                  rw [HCut.out.2.1] at h1
                  have := HC.out.2.1
                  omega
                have r0 : (0 : Int) ≤ (i : Int) := by omega
                have r1 : (i : Int) < (L.length : Int) := by omega
                have r2 : (i : Int) < 16808 := by have h1 := HL1.out.2; have h2 := HP7.out; omega
                have hPl : ((pf cls (l.take j)).flatMap (begun l) ++ (L.take i).map (m :: ·)).length + 1 ≤ 1000000 := by
                  have h0 := pf_len (cls := cls) j (l.take j) HPL.out
                  have h1 := begun_len (l := l) (G := pf cls (l.take j)) (b := 7 ^ n) fun x hx => (HALL.out x hx).2
                  have h2 := HL1.out.2
                  have h3 := HP7.out
                  have h4 : (pf cls (l.take j)).length * 7 ^ n ≤ 7 * 16807 := Nat.mul_le_mul (by omega) h3
                  rw [List.length_append, List.length_map, List.length_take]
                  omega
                have hbase : w.heap.size ≤ wr.heap.size := Below.size hJb
                have HA1 := Lib.hid ((U.Own.lit wr 21 .i32 (cs := #[.int .i32 m]) (l := [m]) (n := 1) rfl rfl (by omega)).keep (Bel.refl _).drew)
                have HA2 := Lib.hid (hro.bel ((Bel.refl wr).alloc (.cells #[.int .i32 m] 21)).drew)
                have HV2 := Lib.hid (And.intro hJv (And.intro hJu (And.intro hJd hJb)))
                have HOl := Lib.hid ho
                have HPl := Lib.hid hPl
                have HBase := Lib.hid hbase
                have HAo := Lib.hid hAo
                obtain ⟨q, hq⟩ : ∃ q, ([m] ++ o).length = q := ⟨_, rfl⟩
                have HQ := Lib.hid hq
                have hol2 : o.length + 1 ≤ 100 := by omega
                have hm1 : L.length - (i + 1) < L.length - i := by omega
                have HM1 := Lib.hid hm1
                clear hJv hJu hJd hJb hcell hOo hro hAo ho hPl hbase hol HJ hcapo hq hm1 hit hi
                go_wp2_with fail
                go_region_law (first
                  | (refine step_append (by rfl) (.tmp 65) (.tmp 69) 22 (by rfl) Tryz.underlying22 hi0 hz0 hz1 hz2 rfl (by omega) HA1.out (by rfl) HA2.out (by rfl) (by rfl) HAo.out (by simp; omega) (by simp) ?_
                     intro v4 w4 hown4 hb4
                     obtain ⟨A4, cap4, rfl, _, _, _⟩ := hown4.rdn HQ.out
                     have hb14 : Bel wr w4 := Below.trans ((Bel.refl wr).alloc (.cells #[.int .i32 m] 21)).drew hb4
                     have hb15 : Bel wr (w4.alloc (.cells #[(Value.slice A4 q cap4)] 22)) := hb14.alloc _
                     have hc4 : (w4.alloc (.cells #[(Value.slice A4 q cap4)] 22)).cell? ⟨w4.heap.size, 0, none⟩ = some (Value.slice A4 q cap4) := F.cell_box w4 (Value.slice A4 q cap4) 22
                     have HO4 := Lib.hid ((hown4.keep ((Bel.refl w4).alloc (.cells #[(Value.slice A4 q cap4)] 22))).less HBase.out)
                     have HB15 := Lib.hid hb15
                     have HV4 := Lib.hid (HV2.out.1.keep hb15)
                     have hs4 : w.heap.size ≤ (w4.alloc (.cells #[(Value.slice A4 q cap4)] 22)).heap.size := Nat.le_trans HBase.out (Below.size hb15)
                     clear hown4 hb4 hb14 hb15)
                  | (refine step_append_l (by rfl) (.tmp 60) (.tmp 71) (by rfl) HV4.out (by rfl) (by rfl) hc4 HO4.out HPl.out hs4 ?_
                     intro v6 w6 hown6 hb6 hgr6 hbl6
                     have H6 := Lib.hid (And.intro hown6 (And.intro hb6 (And.intro hgr6 hbl6)))
                     clear hown6 hb6 hgr6 hbl6)
                  | fail)
                all_goals (
                  obtain ⟨k1, k2, k3, k4⟩ := H6.out
                  obtain ⟨i1, i3, i4, i5⟩ := HV2.out
                  have hrow := HV4.out.row
                  have HF6 : Hid (LOwn w6 w.heap.size v6 (((pf cls (l.take j)).flatMap (begun l)) ++ (L.take (i + 1)).map (m :: ·)) ∧ LOwn w6 w.heap.size (.slice (some ⟨g3, 0, none⟩) L.length cap3) L ∧ (∀ k, v6.ownBlock = some k → (Value.slice (some ⟨g3, 0, none⟩) L.length cap3).ownBlock ≠ some k) ∧ Bel w w6) := Lib.hid ⟨by
                    rw [List.take_add_one, HOl.out, Option.toList_some, List.map_append, ← List.append_assoc]
                    exact k1, (i3.keep HB15.out).grown k3 hrow i4, fun kk h1 h2 => by
                      rcases k4 with e | e
                      · exact i4 kk (e ▸ h1) h2
                      · have h3 := ((i3.keep HB15.out).lt kk h2).2
                        rw [e] at h1
                        cases h1
                        omega, Below.trans (i5.trans HB15.out) k2⟩
                  clear k1 k2 k3 k4 i1 i3 i4 i5 hrow H6 HV2 HV4 HO4 HB15 hc4 hs4 HA1 HA2 hcm hco hco2
                  go_wp2
                  go_roundw
                  case rel => exact ⟨i + 1, by go_num, by omega, HF6⟩
                  case measure => simp [intOf]; exact HM1.out)
              · obtain rfl : i = L.length := by omega
                have r1 : ¬ (L.length : Int) < (L.length : Int) := by omega
                obtain ⟨i1, i3, i4, i5⟩ := HJ.out
                have ht : (pf cls (l.take (j + 1))).flatMap (begun l) = (pf cls (l.take j)).flatMap (begun l) ++ (L.take L.length).map (m :: ·) := by
                  rw [HPN.out, List.flatMap_append, List.take_length]
                  congr 1
                  rw [List.flatMap_cons, List.flatMap_nil, List.append_nil]
                  unfold begun
                  rw [ordersOf_is HL1.out.1]
                have H7 : Hid (LOwn wr w.heap.size u3 ((pf cls (l.take (j + 1))).flatMap (begun l)) ∧ Bel w wr ∧ ∀ x ∈ pf cls (l.take (j + 1)), IsOrders cls (l.erase x) (ordersOf (l.erase x)) ∧ (ordersOf (l.erase x)).length ≤ 7 ^ n) := Lib.hid ⟨by rw [ht]; exact i1, i5, fun x hx => by
                  rw [HPN.out, List.mem_append] at hx
                  rcases hx with h | h
                  · exact HALL.out x h
                  · simp at h
                    subst h
                    rw [ordersOf_is HL1.out.1]
                    exact HL1.out⟩
                have hm1 : n1 - (j + 1) < n1 - j := by have := HLT.out; omega
                have HM1 := Lib.hid hm1
                clear i1 i3 i4 i5 ht HJ hi hit hm1
                go_wp2
                go_roundw
                case rel => exact ⟨j + 1, by go_num, by rw [HC.out.2.2]; exact HLT.out, H7⟩
                case measure => simp [intOf]; exact HM1.out
    · obtain rfl : k = n1 := by omega
      have q1 : ¬ (k : Int) < (k : Int) := by omega
      obtain ⟨hV, hB, hall⟩ := HK.out
      rw [List.take_of_length_le (by rw [HC.out.2.2]; exact Nat.le_refl _)] at hV hall
      obtain ⟨L0, hL0⟩ : ∃ L0, (pf cls l).flatMap (begun l) = L0 := ⟨_, rfl⟩
      rw [hL0] at hV
      obtain ⟨A5, cap5, rfl, hcap5, _, _⟩ := hV.rd
      have hlen : ∀ a ∈ L0, a.length = k := fun a ha => by
        rw [← hL0] at ha
        obtain ⟨x, hx, ha⟩ := List.mem_flatMap.1 ha
        obtain ⟨y, hy, rfl⟩ := mem_pre.1 ha
        have h1 := (((hall x hx).1.2 y).1 hy).len
        have h2 := ((pf_mem (cls := cls) l.length l rfl x).1 hx).mem
        rw [List.length_erase_of_mem h2, HC.out.2.2] at h1
        have := HN1.out
        simp
        omega
      have hcount : L0.length ≤ 7 ^ n * 7 := by
        rw [← hL0]
        have h0 := pf_len (cls := cls) l.length l rfl
        have h1 := begun_len (l := l) (G := pf cls l) (b := 7 ^ n) fun x hx => (hall x hx).2
        have h4 : (pf cls l).length * 7 ^ n ≤ 7 * 7 ^ n := Nat.mul_le_mul_right _ (by have := HC.out.2.2; have := HC.out.2.1; have := HN1.out; omega)
        omega
      have HCO := Lib.hid hcount
      have HLen := Lib.hid hlen
      have HALL := Lib.hid hall
      have HV := Lib.hid (And.intro hV hB)
      have HL0 := Lib.hid hL0
      have hN : L0.length ≤ 117649 := by have := HP7.out; omega
      have HNN := Lib.hid hN
      clear hV hB hall hL0 hlen hcount HK hlt hk hcap5 hN
      go_wp2
      go_loopw [9] (fun i wr => SoRel w (.slice A5 L0.length cap5) L0 i wr) (fun i _ => L0.length - (intOf i).toNat)
      case atStart => exact ⟨1, rfl, by omega, Lib.hid ⟨L0, HV.out.1, List.Perm.refl _, by
        match L0 with
        | [] => simp [SrL]
        | a :: _ => simp [SrL], HV.out.2⟩⟩
      case round =>
        obtain ⟨k2, rfl, hk2, HK2⟩ := hrel
        by_cases hk2n : k2 < L0.length
        · have q2 : (k2 : Int) < (L0.length : Int) := by omega
          have q3 : (k2 : Int) < 117649 := by have := HNN.out; omega
          have HK2L := Lib.hid hk2n
          have hm1 : L0.length - (k2 + 1) < L0.length - k2 := by omega
          have HM1 := Lib.hid hm1
          clear hk2 hk2n hm1
          go_wp2
          go_loopw [10] (fun j wr => SiRel w (.slice A5 L0.length cap5) L0 k2 j wr) (fun j _ => (intOf j).toNat)
          case atStart =>
            obtain ⟨L, h1, h2, h3, h4⟩ := HK2.out
            exact ⟨k2, rfl, Nat.le_refl _, Lib.hid ⟨L, h1, ins_start h2 (by rw [h2.length_eq]; exact HK2L.out) h3, h4⟩⟩
          case round =>
            clear HK2
            obtain ⟨j, rfl, hj, HJ⟩ := hrel
            cases j with
            | zero =>
              obtain ⟨L, h1, h2, h3⟩ := HJ.out
              obtain ⟨e1, e2⟩ := ins_end h2 HLen.out (fun j a b h => by omega)
              have H9 : Hid (∀ n, ∃ L, LOwn (wr.drewN n) w.heap.size (.slice A5 L0.length cap5) L ∧ L.Perm L0 ∧ SrL (L.take (k2 + 1)) ∧ Bel w (wr.drewN n)) := Lib.hid fun n => ⟨L, h1.keep ((Bel.refl wr).drewN n), e1, e2, h3.drewN n⟩
              clear h1 h2 h3 e1 e2 HJ hj
              go_wp2_with fail
              go_quiet (fail)
              have H10 := Lib.hid (H9.out nq)
              clear H9
              generalize wr.drewN nq = w2 at H10 ⊢
              go_wp2
              go_roundw
              case rel => exact ⟨k2 + 1, by go_num, by have := HK2L.out; omega, H10⟩
              case measure => simp [intOf]; exact HM1.out
            | succ j =>
              obtain ⟨L, h1, h2, h3⟩ := HJ.out
              have hLn : L.length = L0.length := h2.len.1
              have hjn : j + 1 < L0.length := by have := HK2L.out; omega
              obtain ⟨a, ha⟩ : ∃ a, L[j + 1]? = some a := ⟨L[j + 1]'(by omega), by simp⟩
              obtain ⟨b, hb⟩ : ∃ b, L[j]? = some b := ⟨L[j]'(by omega), by simp⟩
              have hla : a.length = k := HLen.out a (h2.1.mem_iff.1 (List.mem_of_getElem? ha))
              have hlb : b.length = k := HLen.out b (h2.1.mem_iff.1 (List.mem_of_getElem? hb))
              obtain ⟨_, _, g5, e5, hg5, _, _⟩ := h1.form (by omega)
              subst e5
              obtain ⟨ua, ca, fa, oa⟩ := h1.cell ha
              obtain ⟨ub, cb, fb, ob⟩ := h1.cell hb
              obtain ⟨Aa, capa, rfl, _, rda, _⟩ := oa.rdn hla
              obtain ⟨Ab, capb, rfl, _, rdb, _⟩ := ob.rdn hlb
              obtain ⟨t, ht⟩ : ∃ t, lessL a b = t := ⟨_, rfl⟩
              have HLs : Hid (∀ (n : Nat) (os : Array Obj), Calls Tryz.prog 28 #[.slice Aa k capa, .slice Ab k capb] (Sort.grow (wr.drewN n) os) fun e w' => e = .returned (.bool t) ∧ ∃ q os', w' = Sort.grow ((Sort.grow (wr.drewN n) os).drewN q) os') := Lib.hid fun n os =>
                (less_is Aa Ab k capa capb a b _ _ _ (rda.bel (Gr.bel ⟨n, os, rfl⟩)) (rdb.bel (Gr.bel ⟨n, os, rfl⟩)) hla hlb (by have := HC.out.2.1; have := HN1.out; omega)).mono fun e w' h => ⟨by rw [← ht]; exact h.1, by
                  obtain ⟨q, hq⟩ := h.2
                  exact ⟨q, #[], by rw [hq]; simp⟩⟩
              have HS : Hid (∀ (n : Nat) (os : Array Obj), LOwn (Sort.grow (wr.drewN n) os) w.heap.size (.slice (some ⟨g5, 0, none⟩) L0.length cap5) L ∧ Bel w (Sort.grow (wr.drewN n) os)) := Lib.hid fun n os => ⟨h1.keep (Gr.bel ⟨n, os, rfl⟩), h3.trans (Gr.bel ⟨n, os, rfl⟩)⟩
              have HI2 := Lib.hid h2
              have HAB := Lib.hid (And.intro ha (And.intro hb ht))
              have HSj := Lib.hid hj
              obtain ⟨jj, hjj⟩ : ∃ jj, j + 1 = jj := ⟨_, rfl⟩
              rw [hjj] at ca fa ⊢
              have la : ∀ (n : Nat) (os : Array Obj), (Sort.grow (wr.drewN n) os).cell? ⟨g5, jj, none⟩ = some (.slice Aa k capa) := fun n os => cell_bel ca (Gr.bel ⟨n, os, rfl⟩)
              have lb : ∀ (n : Nat) (os : Array Obj), (Sort.grow (wr.drewN n) os).cell? ⟨g5, j, none⟩ = some (.slice Ab k capb) := fun n os => cell_bel cb (Gr.bel ⟨n, os, rfl⟩)
              have q4 : (0 : Int) < (jj : Int) := by omega
              have q5 : (jj : Int) < (L0.length : Int) := by omega
              have q6 : IntKind.i64.wrap ((jj : Int) - 1) = (j : Int) := by rw [IntKind.wrap_i64]; omega
              have q7 : (0 : Int) ≤ (j : Int) := by omega
              have q8 : (j : Int) < (L0.length : Int) := by omega
              have q9 : (0 : Int) ≤ (jj : Int) := by omega
              have qn : 0 < jj := by omega
              have qd : decide (0 < jj) = true := decide_eq_true qn
              have HJJ := Lib.hid hjj
              have HJN := Lib.hid hjn
              clear h1 h2 h3 hLn hjn ha hb hla hlb hg5 ca fa oa cb fb ob rda rdb ht HJ hj hjj
              cases t with
              | true =>
                go_wp2_with fail
                go_quiet_grown (first | (go_at_call 28; with_reducible refine Calls.grown_of (HLs.out _ _)))
                have HS2 := Lib.hid (HS.out nq osq)
                have c1 := la nq osq
                have c2 := lb nq osq
                clear la lb HLs HS
                generalize Sort.grow (wr.drewN nq) osq = w2 at HS2 c1 c2 ⊢
                obtain ⟨ua, ca, f1, oa⟩ := HS2.out.1.cell HAB.out.1
                obtain ⟨ub, cb, f2, ob⟩ := HS2.out.1.cell HAB.out.2.1
                rw [HJJ.out] at ca f1
                obtain rfl := Option.some.inj (c1.symm.trans ca)
                obtain rfl := Option.some.inj (c2.symm.trans cb)
                obtain ⟨s1, s2, s3⟩ := HS2.out.1.set (i := jj) (by rw [← HJJ.out]; exact HJN.out) ob
                have s4 := (s1.set (i := j) (by have := HJN.out; omega) (s3 _ _ oa)).1
                have hins := ins_step HI2.out HAB.out.1 HAB.out.2.1 HAB.out.2.2
                rw [HJJ.out] at hins
                have H11 : Hid (∃ L, LOwn ((w2.setCell ⟨g5, jj, none⟩ (.slice Ab k capb)).setCell ⟨g5, j, none⟩ (.slice Aa k capa)).drew w.heap.size (.slice (some ⟨g5, 0, none⟩) L0.length cap5) L ∧ Ins L0 k2 j L ∧ Bel w ((w2.setCell ⟨g5, jj, none⟩ (.slice Ab k capb)).setCell ⟨g5, j, none⟩ (.slice Aa k capa)).drew) := Lib.hid
                  ⟨_, s4.keep (Bel.refl _).drew, hins, (Below.setCell (Below.setCell HS2.out.2 s2 _) s2 _).drew⟩
                have c3 : (w2.setCell ⟨g5, jj, none⟩ (.slice Ab k capb)).cell? ⟨g5, j, none⟩ = some (.slice Ab k capb) := (World.cell?_setCell_other _ _ _ _ (by intro e; simp only [Addr.mk.injEq] at e; have := HJJ.out; omega)).trans c2
                have hjl : j ≤ k2 := by have := HSj.out; omega
                have HJL := Lib.hid hjl
                clear ca oa cb ob s1 s2 s3 s4 hins HS2 HI2 HAB hjl
                go_wp2_with fail
                go_region
                clear c1 c2 c3 f1 f2
                generalize ((w2.setCell ⟨g5, jj, none⟩ (.slice Ab k capb)).setCell ⟨g5, j, none⟩ (.slice Aa k capa)).drew = w3 at H11 ⊢
                have hjm : j < jj := by have := HJJ.out; omega
                have HJM := Lib.hid hjm
                clear hjm qn qd
                go_wp2
                go_roundw
                case rel => exact ⟨j, by go_num, HJL.out, H11⟩
                case measure => simp [intOf]; exact HJM.out
              | false =>
                go_wp2_with fail
                go_quiet_grown (first | (go_at_call 28; with_reducible refine Calls.grown_of (HLs.out _ _)))
                have HS2 := Lib.hid (HS.out nq osq)
                clear la lb HLs HS
                generalize Sort.grow (wr.drewN nq) osq = w2 at HS2 ⊢
                have H10 : Hid (∃ L, LOwn w2 w.heap.size (.slice (some ⟨g5, 0, none⟩) L0.length cap5) L ∧ L.Perm L0 ∧ SrL (L.take (k2 + 1)) ∧ Bel w w2) := Lib.hid (by
                  obtain ⟨e1, e2⟩ := ins_end HI2.out HLen.out (fun i x y hi hx hy => by
                    have : i = j := by omega
                    subst this
                    obtain rfl := Option.some.inj (HAB.out.1.symm.trans hx)
                    obtain rfl := Option.some.inj (HAB.out.2.1.symm.trans hy)
                    exact HAB.out.2.2)
                  exact ⟨L, HS2.out.1, e1, e2, HS2.out.2⟩)
                clear HS2 HI2 HAB q4 q5 q6 q7 q8 q9
                go_wp2
                go_roundw
                case rel => exact ⟨k2 + 1, by go_num, by have := HK2L.out; omega, H10⟩
                case measure => simp [intOf]; exact HM1.out
        · have q2 : ¬ (k2 : Int) < (L0.length : Int) := by omega
          obtain ⟨L, h1, h2, h3, h4⟩ := HK2.out
          rw [List.take_of_length_le (by rw [h2.length_eq]; omega)] at h3
          have HF9 : Hid (OrdersP w l (.returned (.slice A5 L0.length cap5)) wr) := Lib.hid ⟨_, L, rfl, orders_sorted HL.out.2 (pf_nodup (cls := cls) l.length l rfl) (pf_mem (cls := cls) l.length l rfl) (Q := fun m => ordersOf (l.erase m)) (fun m hm => (HALL.out m hm).1) (by
            have h := h2
            rw [← HL0.out] at h
            exact h) h3, h1, by rw [h2.length_eq, HL.out.1, Nat.pow_succ]; exact HCO.out, h4⟩
          clear h1 h2 h3 h4 HK2
          go_wp2
          go_ret
          exact HF9.out
theorem rorders_none (w : World) (A : Option Addr) (c : Nat) : Calls Tryz.prog 13 #[.slice A 0 c] w (OrdersP w []) := by
  have hO := LOwn.made (base := w.heap.size) _ (U.Own.empty w 21 .i32) (by simp)
  rw [show (w.alloc (.cells #[] 21)).heap.size = w.heap.size + 1 by simp] at hO
  have HO := Lib.hid hO
  clear hO
  go_enter Tryz.func13, Tryz.ntmps13
  go_wp2
  go_ret
  exact ⟨_, [[]], rfl, orders_nil, HO.out, by simp, ((Bel.refl w).alloc _).alloc _⟩
/-- THE REFERENCE's ORDERS. -/
theorem rorders_is : ∀ (n : Nat) (l : List Int) (A : Option Addr) (c C : Nat) (w : World), l.length = n → n ≤ c → n ≤ 6 → U.Rd w C .i32 A l → F.Fit l → Calls Tryz.prog 13 #[.slice A n c] w (OrdersP w l) := by
  intro n
  induction n with
  | zero =>
    intro l A c C w hl _ _ _ _
    obtain rfl := List.eq_nil_of_length_eq_zero hl
    exact rorders_none w A c
  | succ n ih => exact fun l A c C w hl hc hn hr hf => rorders_some n l A c C w hl hc (by omega) hr hf fun t A c C w ht hc hr hf => ih t A c C w ht hc (by omega) hr hf
end Go.Proofs.YtipigfgnpfhdbaaGreatDoor.K
namespace Go.Proofs.YtipigfgnpfhdbaaGreatDoor.K
open F
set_option linter.unusedVariables false

theorem pi_marks {l : List Int} (h : ∀ x ∈ l, 0 < cls x) (k : Int) : F.pi k l = ofC cls k l := by
  unfold F.pi ofC
  refine List.filter_congr fun x hx => ?_
  have := h x hx
  have e : (cls x == 0) = false := by simp; omega
  simp [e]
/-- Orders of marks: put into order they are the same. -/
theorem keeps_st {o l : List Int} (h : Keeps cls o l) (hm : ∀ x ∈ l, 0 < cls x) : St l o :=
  ⟨h.perm, fun k _ => by rw [pi_marks (fun x hx => hm x (h.mem.1 hx)), pi_marks hm, h k]⟩
theorem keeps_ord {o l L : List Int} (h : Keeps cls o l) (hm : ∀ x ∈ l, 0 < cls x) (hL : Ord l L) : Ord o L := hL.of_st (keeps_st h hm)
end Go.Proofs.YtipigfgnpfhdbaaGreatDoor.K
namespace Go.Proofs.YtipigfgnpfhdbaaGreatDoor.K
open Go.RowKit U F
set_option linter.unusedVariables false

theorem infoZ : (Tryz.prog.info? 21).map (fun i => (i.zero, i.size, i.bytes)) = some (some (.int .i32 0), 1, 4) := by kernel_rfl
def ClsR (w : World) (l : List Int) (i : Value) (wr : World) : Prop := ∃ k : Nat, i = .int .i64 k ∧ k ≤ l.length ∧ Hid ((∀ x ∈ l.take k, 0 < cls x) ∧ Bel w wr)
def IdR (w : World) (m : Nat) (i : Value) (wr : World) : Prop := ∃ k : Nat, i = .int .i64 k ∧ k ≤ m ∧ Hid (Bel w wr)
theorem cls_take {l : List Int} {k : Nat} {x : Int} (h : ∀ x ∈ l.take k, 0 < cls x) (hx : l[k]? = some x) (h0 : ¬ cls x = 0) : ∀ x ∈ l.take (k + 1), 0 < cls x := fun y hy => by
  rw [List.take_add_one, hx, Option.toList_some] at hy
  rcases List.mem_append.1 hy with h1 | h1
  · exact h y h1
  · rw [List.mem_singleton.1 h1]
    have := F.cls_nn x
    omega

set_option maxRecDepth 100000 in
set_option maxHeartbeats 4000000 in
theorem orders_long (A : Option Addr) (n c : Nat) (w : World) (hn : 30 < n) (hG : G.Gk w) (hS : F.Sp w) : Calls Tryz.prog 5 #[.slice A n c] w (AnsK w) := by
  have HA := Lib.hid (answers_is w hG hS)
  have q0 : (30 : Int) < (n : Int) := by omega
  clear hG hS
  go_enter Tryz.func5, Tryz.ntmps5
  go_wp2_with fail
  with_reducible refine HA.out.mono ?_
  rintro e w1 ⟨rfl, hb⟩
  have HB := Lib.hid hb
  clear hb HA
  go_wp2
  go_ret
  exact ⟨rfl, HB.out⟩

set_option maxRecDepth 100000 in
set_option maxHeartbeats 4000000 in
/-- Of what is not at most six marks: nothing. -/
theorem orders_not (A : Option Addr) (n c : Nat) (l : List Int) (w : World) (hr : U.Rd w w.heap.size .i32 A l) (hl : l.length = n) (hnil : A = none → c = 0) (hn : n ≤ 30) (hf : F.Fit l) (hG : G.Gk w) (hS : F.Sp w)
    (hno : ¬ (l.length ≤ 6 ∧ ∀ x ∈ l, 0 < cls x)) : Calls Tryz.prog 5 #[.slice A n c] w (AnsK w) := by
  obtain ⟨i0, hi0, hz0, hz1, hz2⟩ := info_parts infoZ
  have HA := Lib.hid (fun w' (hb : Bel w w') => answers_is w' (hG.bel hb) (hS.by hb))
  have HAll := Lib.hid (fun A c w' (hb : Bel w w') (h : U.Rd w' w'.heap.size .i32 A l) => all_is A n c _ l w' hl (by omega) h (hS.by hb))
  have HO := Lib.hid (U.Own.empty w 21 .i32)
  have HR := Lib.hid hr
  have HR1 := Lib.hid (hr.alloc (.cells #[] 21))
  have HL := Lib.hid hl
  have HF := Lib.hid hf
  have HNIL := Lib.hid hnil
  have HNo := Lib.hid hno
  have HN := Lib.hid hn
  have q0 : ¬ (30 : Int) < (n : Int) := by omega
  clear hr hl hnil hf hG hS hno hn
  go_enter Tryz.func5, Tryz.ntmps5
  go_wp2_with (first | (at_builtin; refine F.wpl_append (by rfl) (.tmp 11) (.tmp 12) 22 rfl Tryz.underlying22 hi0 hz0 hz1 hz2 rfl (by omega) HO.out rfl HR1.out rfl HL.out HNIL.out (by have := HL.out; have := HN.out; simp; omega) (by simp) ?_; intro v2 w2 hown2 hb2) | fail)
  rw [List.nil_append] at hown2
  obtain ⟨A2, cap2, rfl, _, hrd2, _⟩ := hown2.rdn HL.out
  have hbw : Bel w w2 := Below.trans ((Bel.refl w).alloc _) hb2
  have HAl := Lib.hid (HAll.out A2 cap2 w2 hbw hrd2)
  have HB := Lib.hid hbw
  clear hown2 hrd2 hb2 hbw HO HR1 HAll
  try go_wp2_with fail
  with_reducible refine HAl.out.mono ?_
  rintro e w3 h3
  rcases h3 with ⟨h6, hp, _⟩ | ⟨_, rfl, hb3⟩
  · exact absurd ⟨h6, hp⟩ HNo.out
  have HB3 := Lib.hid (HB.out.trans hb3)
  clear HAl HB hb3
  go_wp2
  go_loopw [4] (fun i wr => ClsR w l i wr) (fun i _ => n - (intOf i).toNat)
  case atStart => exact ⟨0, rfl, Nat.zero_le _, Lib.hid ⟨fun x hx => by simp at hx, HB3.out⟩⟩
  case round =>
    obtain ⟨k, rfl, hk, HQ⟩ := hrel
    rw [HL.out] at hk
    by_cases hlt : k < n
    · obtain ⟨x, hx⟩ : ∃ x, l[k]? = some x := ⟨l[k]'(by rw [HL.out]; exact hlt), by simp⟩
      obtain ⟨g, off, rfl, _, hcx⟩ := (HR.out.bel HQ.out.2) k x hx
      have q1 : (k : Int) < (n : Int) := by omega
      have q2 : (0 : Int) ≤ (k : Int) := by omega
      have q3 := kinc (n := n) hlt (by have := HN.out; omega)
      obtain ⟨v, hv⟩ : ∃ v, cls x = v := ⟨_, rfl⟩
      have HC := Lib.hid (F.rclass_is x v wr (HF.out x (List.mem_of_getElem? hx)) hv)
      have HX := Lib.hid hx
      have HV := Lib.hid hv
      have HLT := Lib.hid hlt
      clear hx hv hlt hk
      by_cases hv0 : v = 0
      · subst hv0
        go_wp2_with fail
        with_reducible refine HC.out.mono ?_
        rintro e w4 ⟨rfl, hg⟩
        have hb4 := HQ.out.2.trans hg.bel
        have HA4 := Lib.hid (HA.out w4 hb4)
        have HB4 := Lib.hid hb4
        clear hb4 hg HC HA
        go_wp2_with fail
        with_reducible refine HA4.out.mono ?_
        rintro e w5 ⟨rfl, hb5⟩
        have HB5 := Lib.hid (HB4.out.trans hb5)
        clear hb5 HA4
        go_wp2
        go_ret
        exact ⟨rfl, HB5.out⟩
      · have q4 : (v == 0) = false := by simpa using hv0
        have HV0 := Lib.hid hv0
        clear hv0
        go_wp2_with fail
        with_reducible refine HC.out.mono ?_
        rintro e w4 ⟨rfl, hg⟩
        have HB4 := Lib.hid (HQ.out.2.trans hg.bel)
        clear hg HC
        go_wp2
        go_roundw
        case rel => exact ⟨k + 1, congrArg _ (show (k : Int) + 1 = ((k + 1 : Nat) : Int) by omega), by rw [HL.out]; exact HLT.out, Lib.hid ⟨cls_take HQ.out.1 HX.out (by rw [HV.out]; exact HV0.out), HB4.out⟩⟩
        case measure => exact kmeas HLT.out (by omega)
    · obtain rfl : k = n := by omega
      have hall : ∀ x ∈ l, 0 < cls x := by
        have := HQ.out.1
        rwa [List.take_of_length_le (by rw [HL.out]; exact Nat.le_refl _)] at this
      have h6 : 6 < k := by
        have h1 := HNo.out
        rw [HL.out] at h1
        refine Nat.lt_of_not_le fun h => h1 ⟨h, hall⟩
      have q1 : ¬ (k : Int) < (k : Int) := by omega
      have q5 : (6 : Int) < (k : Int) := by omega
      have HA4 := Lib.hid (HA.out wr HQ.out.2)
      clear hall h6 hk hlt HA
      go_wp2_with fail
      with_reducible refine HA4.out.mono ?_
      rintro e w5 ⟨rfl, hb5⟩
      have HB5 := Lib.hid (HQ.out.2.trans hb5)
      clear hb5 HA4
      go_wp2
      go_ret
      exact ⟨rfl, HB5.out⟩
end Go.Proofs.YtipigfgnpfhdbaaGreatDoor.K
namespace Go.Proofs.YtipigfgnpfhdbaaGreatDoor.F
open Go.RowKit U
set_option linter.unusedVariables false

theorem Rd.cells {w : World} {B g off : Nat} {l : List Int} (h : Rd w B .i32 (some ⟨g, off, none⟩) l) {i : Nat} {x : Int} (hx : l[i]? = some x) (n : Nat) (os : Array Obj) : (Sort.grow (w.drewN n) os).cell? ⟨g, off + i, none⟩ = some (.int .i32 x) :=
  (h.bel (Gr.bel ⟨n, os, rfl⟩)).at hx
theorem fit_of {w : World} {A : Option Addr} {n c : Nat} {l : List Int} (h : Came .i32 w A n c l) : Fit l := fun x hx => by
  have := bounds_i32 (h.2.2.2.2 x hx)
  omega
theorem Fit.st {a b : List Int} (h : Fit a) (s : St a b) : Fit b := fun x hx => h x (s.mem.1 hx)

def OLoop (w : World) (m : Nat) (i : Value) (w' : World) : Prop := ∃ k : Nat, i = .int .i64 k ∧ k ≤ m + 1 ∧ Bel w w'

end Go.Proofs.YtipigfgnpfhdbaaGreatDoor.F
namespace Go.Proofs.YtipigfgnpfhdbaaGreatDoor.K
open Go.RowKit U F
set_option linter.unusedVariables false

theorem rd_up {w w' : World} {k : IntKind} {A : Option Addr} {l : List Int} (h : U.Rd w w.heap.size k A l) (hb : Bel w w') : U.Rd w' w'.heap.size k A l := fun i x hx => by
  obtain ⟨g, o, e, h1, h2⟩ := h.bel hb i x hx
  have := Below.size hb
  exact ⟨g, o, e, by omega, h2⟩
theorem pow7' {n : Nat} (h : n ≤ 6) : 7 ^ n ≤ 117649 := Nat.le_trans (Nat.pow_le_pow_right (by omega) h) (by decide)
set_option maxRecDepth 100000 in
set_option maxHeartbeats 4000000 in
/-- Of at most six marks: all orders, the reference's own. -/
theorem orders_six (A : Option Addr) (n c : Nat) (l : List Int) (w : World) (hr : U.Rd w w.heap.size .i32 A l) (hl : l.length = n) (hnil : A = none → c = 0) (hn : n ≤ 30) (hf : F.Fit l) (hG : G.Gk w) (hS : F.Sp w)
    (hc : n ≤ c) (h6 : n ≤ 6) (hp : ∀ x ∈ l, 0 < cls x) : Calls Tryz.prog 5 #[.slice A n c] w (AnsK w) := by
  obtain ⟨i0, hi0, hz0, hz1, hz2⟩ := info_parts infoZ
  have HA := Lib.hid (fun w' (hb : Bel w w') => answers_is w' (hG.bel hb) (hS.by hb))
  have HAll := Lib.hid (fun A c w' (hb : Bel w w') (h : U.Rd w' w'.heap.size .i32 A l) => all_is A n c _ l w' hl (by omega) h (hS.by hb))
  have HO := Lib.hid (U.Own.empty w 21 .i32)
  have HR := Lib.hid hr
  have HR1 := Lib.hid (hr.alloc (.cells #[] 21))
  have HL := Lib.hid hl
  have HF := Lib.hid hf
  have HS := Lib.hid hS
  have HNIL := Lib.hid hnil
  have HP := Lib.hid hp
  have HC6 := Lib.hid (And.intro hc h6)
  have HRO := Lib.hid (fun w' (hb : Bel w w') => rorders_is n l A c _ w' hl hc h6 (hr.bel hb) hf)
  have HN := Lib.hid hn
  have q0 : ¬ (30 : Int) < (n : Int) := by omega
  clear hr hl hnil hf hG hS hn hc h6 hp
  go_enter Tryz.func5, Tryz.ntmps5
  go_wp2_with (first | (at_builtin; refine F.wpl_append (by rfl) (.tmp 11) (.tmp 12) 22 rfl Tryz.underlying22 hi0 hz0 hz1 hz2 rfl (by omega) HO.out rfl HR1.out rfl HL.out HNIL.out (by have := HL.out; have := HN.out; simp; omega) (by simp) ?_; intro v2 w2 hown2 hb2) | fail)
  rw [List.nil_append] at hown2
  obtain ⟨A2, cap2, rfl, z1, hrd2, z2⟩ := hown2.rdn HL.out
  clear z1 z2
  have hbw : Bel w w2 := Below.trans ((Bel.refl w).alloc _) hb2
  have HAl := Lib.hid (HAll.out A2 cap2 w2 hbw hrd2)
  have HB := Lib.hid hbw
  clear hown2 hrd2 hb2 hbw HO HR1 HAll
  try go_wp2_with fail
  with_reducible refine HAl.out.mono ?_
  rintro e w3 h3
  rcases h3 with ⟨y1, y2, v3, L, rfl, hI, hO3, hL7, hb3⟩ | ⟨hno, _⟩
  rotate_left
  · exact absurd ⟨by rw [HL.out]; exact HC6.out.2, HP.out⟩ hno
  clear y1 y2
  obtain ⟨m, hm⟩ : ∃ m, L.length = m := ⟨_, rfl⟩
  have hrd3 := hO3.rd
  rw [hm] at hrd3
  obtain ⟨A3, cap3, rfl, y1, y2, y3⟩ := hrd3
  clear y1 y2 y3
  have HB3 := Lib.hid (HB.out.trans hb3)
  have HO3 := Lib.hid hO3
  have HI := Lib.hid (And.intro hI (And.intro hL7 hm))
  clear HAl HB hb3 hI hL7 hO3 hm
  go_wp2
  go_loopw [4] (fun i wr => ClsR w3 l i wr) (fun i _ => n - (intOf i).toNat)
  case atStart => exact ⟨0, rfl, Nat.zero_le _, Lib.hid ⟨fun x hx => by simp at hx, Bel.refl _⟩⟩
  case round =>
    obtain ⟨k, rfl, hk, HQ⟩ := hrel
    rw [HL.out] at hk
    by_cases hlt : k < n
    · obtain ⟨x, hx⟩ : ∃ x, l[k]? = some x := ⟨l[k]'(by rw [HL.out]; exact hlt), by simp⟩
      obtain ⟨g, off, rfl, _, hcx⟩ := (HR.out.bel (HB3.out.trans HQ.out.2)) k x hx
      have q1 : (k : Int) < (n : Int) := by omega
      have q2 : (0 : Int) ≤ (k : Int) := by omega
      have q3 := kinc (n := n) hlt (by have := HN.out; omega)
      obtain ⟨v, hv⟩ : ∃ v, cls x = v := ⟨_, rfl⟩
      have HC := Lib.hid (F.rclass_is x v wr (HF.out x (List.mem_of_getElem? hx)) hv)
      have HX := Lib.hid hx
      have HV := Lib.hid hv
      have HLT := Lib.hid hlt
      clear hx hv hlt hk
      by_cases hv0 : v = 0
      · have h1 := HP.out x (List.mem_of_getElem? HX.out)
        rw [HV.out] at h1
        omega
      · have q4 : (v == 0) = false := by simpa using hv0
        have HV0 := Lib.hid hv0
        clear hv0
        go_wp2_with fail
        with_reducible refine HC.out.mono ?_
        rintro e w4 ⟨rfl, hg⟩
        have HB4 := Lib.hid (HQ.out.2.trans hg.bel)
        clear hg HC
        go_wp2
        go_roundw
        case rel => exact ⟨k + 1, congrArg _ (by first | exact q3 | omega), by rw [HL.out]; exact HLT.out, Lib.hid ⟨cls_take HQ.out.1 HX.out (by rw [HV.out]; exact HV0.out), HB4.out⟩⟩
        case measure => exact kmeas HLT.out (by first | exact q3 | omega)
    · obtain rfl : k = n := by omega
      have hb4 := HB3.out.trans HQ.out.2
      have HRO2 := Lib.hid (HRO.out wr hb4)
      have HQB := Lib.hid HQ.out.2
      have q1 : ¬ (k : Int) < (k : Int) := by omega
      have q5 : ¬ (6 : Int) < (k : Int) := by have := HC6.out.2; omega
      clear hb4 hk hlt HQ HRO
      go_wp2_with fail
      with_reducible refine HRO2.out.mono ?_
      rintro e w5 ⟨v5, L5, rfl, hI5, hO5, y1, hb5⟩
      obtain rfl : L = L5 := HI.out.1.unique hI5
      have hrd5 := hO5.rd
      rw [HI.out.2.2] at hrd5
      obtain ⟨A5, cap5, rfl, y2, y3, y4⟩ := hrd5
      clear y1 y2 y3 y4
      have hbw5 := HB3.out.trans (HQB.out.trans hb5)
      have HA5 := Lib.hid (HA.out w5 hbw5)
      have HO5 := Lib.hid (And.intro (HO3.out.keep (HQB.out.trans hb5)) (And.intro hO5 hbw5))
      have q6 : ((m : Int) != (m : Int)) = false := by simp
      have HM := Lib.hid HI.out.2.2
      have hmx : m ≤ 200000 := by
        have h1 := HI.out.2.1
        have h2 := pow7' (n := l.length) (by rw [HL.out]; exact HC6.out.2)
        have h3 := HI.out.2.2
        omega
      have HMx := Lib.hid hmx
      clear hmx
      clear hI5 hO5 hbw5 HRO2 HO3 hb5
      go_wp2_with fail
      with_reducible refine HA5.out.mono ?_
      rintro e w6 ⟨rfl, hb6⟩
      have HO6 := Lib.hid (And.intro (HO5.out.1.keep hb6) (And.intro (show ∃ B, LOwn w6 B (.slice A5 m cap5) L from ⟨_, HO5.out.2.1.keep hb6⟩) (HO5.out.2.2.trans hb6)))
      obtain ⟨S, hS⟩ := ord_ex l
      have HSo := Lib.hid hS
      clear hS hb6 HO5 HA5 HA HB3 HQB
      go_wp2
      go_loopw [6] (fun i wq => IdR w6 m i wq) (fun i _ => m - (intOf i).toNat)
      case atStart => exact ⟨0, rfl, Nat.zero_le _, Lib.hid (Bel.refl _)⟩
      case round =>
        obtain ⟨j, rfl, hj, HQ⟩ := hrel
        by_cases hjm : j < m
        · obtain ⟨o, ho⟩ : ∃ o, L[j]? = some o := ⟨L[j]'(by rw [HM.out]; exact hjm), by simp⟩
          have hkp := (HI.out.1.2 o).1 (List.mem_of_getElem? ho)
          have hol : o.length = k := hkp.len.trans HL.out
          have hso := keeps_ord hkp HP.out HSo.out
          have hof : F.Fit o := fun x hx => HF.out x (hkp.mem.1 hx)
          have hsl : S.length = k := HSo.out.1.length.trans HL.out
          have hd3 := (HO6.out.1.keep HQ.out).rd
          rw [HM.out] at hd3
          obtain ⟨_, _, e3, y1, y2, hcell3⟩ := hd3
          cases e3
          clear y1 y2
          obtain ⟨g3, u3', rfl, hc3, hown3⟩ := hcell3 j o ho
          obtain ⟨Ao, co, rfl, y1, hro, hno⟩ := hown3.rdn hol
          clear y1
          obtain ⟨B5, hB5⟩ := HO6.out.2.1
          have hd5 := (hB5.keep HQ.out).rd
          rw [HM.out] at hd5
          obtain ⟨_, _, e5, y1, y2, hcell5⟩ := hd5
          cases e5
          clear y1 y2
          obtain ⟨g5, u5', rfl, hc5, hown5⟩ := hcell5 j o ho
          obtain ⟨Am, cm, rfl, y1, hrm, hnm⟩ := hown5.rdn hol
          clear y1
          have hk30 := HN.out
          have hbq : Bel w wr := HO6.out.2.2.trans HQ.out
          have hR1 := F.runes_is Ao Am k k co cm o o _ _ true wr.drew hro hrm hol hol (by omega) (by simp)
          have HOo := Lib.hid (fun w' (hb : Bel wr w') => (F.rorder_is Ao k co _ o w' (hro.bel hb) hol hno (by omega) (HS.out.by (hbq.trans hb)) hof).mono (R' := fun e w'' => ∃ A c, e = .returned (.slice A k c) ∧ U.Rd w'' w''.heap.size .i32 A S ∧ Bel w' w'') (fun e w'' h => by
            obtain ⟨v, l', rfl, h1, h2, h3⟩ := h
            obtain rfl := F.ord_one h1 hso
            obtain ⟨A, c, rfl, _, h4, _⟩ := h2.rdn hsl
            exact ⟨A, c, rfl, h4, h3⟩))
          have HOl := Lib.hid (fun w' (hb : Bel wr w') => (F.rorder_is A k c _ l w' (HR.out.bel (hbq.trans hb)) HL.out HNIL.out (by omega) (HS.out.by (hbq.trans hb)) HF.out).mono (R' := fun e w'' => ∃ A c, e = .returned (.slice A k c) ∧ U.Rd w'' w''.heap.size .i32 A S ∧ Bel w' w'') (fun e w'' h => by
            obtain ⟨v, l', rfl, h1, h2, h3⟩ := h
            obtain rfl := F.ord_one h1 HSo.out
            obtain ⟨A, c, rfl, _, h4, _⟩ := h2.rdn hsl
            exact ⟨A, c, rfl, h4, h3⟩))
          have HR2 := Lib.hid (fun w' A1 c1 A2 c2 (h1 : U.Rd w' w'.heap.size .i32 A1 S) (h2 : U.Rd w' w'.heap.size .i32 A2 S) => F.runes_is A1 A2 k k c1 c2 S S _ _ true w' h1 h2 hsl hsl (by omega) (by simp))
          have q7 : (j : Int) < (m : Int) := by omega
          have q8 : (0 : Int) ≤ (j : Int) := by omega
          have q9 := kinc (n := m) hjm HMx.out
          have HLT := Lib.hid hjm
          have HBQ := Lib.hid (Bel.refl wr)
          have HQ6 := Lib.hid HQ.out
          clear hB5 hkp hol hso hof hsl hcell3 hown3 hro hno hcell5 hown5 hrm hnm hk30 hbq ho hjm hj HQ
          go_wp2_with fail
          go_region_law (first
            | (go_simp; go_at_call 14; (with_reducible refine hR1.mono ?_); rintro e w7 ⟨rfl, q10, rfl⟩)
            | (go_simp; go_at_call 15; (with_reducible refine (HOo.out _ ((Bel.refl _).drewN _)).mono ?_); rintro e w8 ⟨A8, c8, rfl, hr8, hb8⟩; have hb8' := ((Bel.refl wr).drewN _).trans hb8)
            | (go_simp; go_at_call 15; (with_reducible refine (HOl.out _ hb8').mono ?_); rintro e w9 ⟨A9, c9, rfl, hr9, hb9⟩; have hR3 := HR2.out _ A8 c8 A9 c9 (rd_up hr8 hb9) hr9)
            | (go_simp; go_at_call 14; (with_reducible refine hR3.mono ?_); rintro e w10 ⟨rfl, q11, rfl⟩)
            | fail)
          all_goals (
            have HBF : Hid (Bel w6 (w9.drewN q11)) := Lib.hid (HQ6.out.trans ((hb8'.trans hb9).drewN q11))
            clear hb8 hb8' hb9 hr8 hr9 hR1 hR3 HOo HOl HR2 hc3 hc5 HBQ
            go_wp2
            go_roundw
            case rel => exact ⟨j + 1, congrArg _ (by first | exact q9 | omega), HLT.out, HBF⟩
            case measure => exact kmeas HLT.out (by first | exact q9 | omega))
        · obtain rfl : j = m := by omega
          have q7 : ¬ (j : Int) < (j : Int) := by omega
          have HBF := Lib.hid (HO6.out.2.2.trans HQ.out)
          clear hj hjm
          go_wp2
          go_ret
          exact ⟨rfl, HBF.out⟩

/-- The law, at whatever comes. -/
theorem orders_any (A : Option Addr) (n c : Nat) (l : List Int) (w : World) (h : U.Came .i32 w A n c l) (hG : G.Gk w) (hS : F.Sp w) : Calls Tryz.prog 5 #[.slice A n c] w (AnsK w) := by
  by_cases hn : n ≤ 30
  · by_cases h6 : l.length ≤ 6 ∧ ∀ x ∈ l, 0 < cls x
    · exact orders_six A n c l w h.2.2.1 h.1 h.2.2.2.1 hn (F.fit_of h) hG hS h.2.1 (by rw [← h.1]; exact h6.1) h6.2
    · exact orders_not A n c l w h.2.2.1 h.1 h.2.2.2.1 hn (F.fit_of h) hG hS h6
  · exact orders_long A n c w (by omega) hG hS
end Go.Proofs.YtipigfgnpfhdbaaGreatDoor.K
