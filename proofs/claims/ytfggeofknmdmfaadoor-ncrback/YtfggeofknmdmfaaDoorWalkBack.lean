/- NcrBack answers true at every list and every flags; nothing that was there is changed. The library's table of trailing zeros must hold what it holds. -/
import Derived.Test.YtfggeofknmdmfaaDoorWalkAgain
namespace Go.Proofs.YtfggeofknmdmfaaDoor.U
open Go.RowKit
set_option linter.unusedVariables false

/-- A slice of flags. -/
def Flags (w : World) (A : Option Addr) (n : Nat) (f : Nat → Bool) : Prop := ∀ i, i < n → ∃ g off, A = some ⟨g, off, none⟩ ∧ w.cell? ⟨g, off + i, none⟩ = some (.bool (f i))
theorem Flags.bel {w w' : World} {A : Option Addr} {n : Nat} {f : Nat → Bool} (h : Flags w A n f) (hb : Bel w w') : Flags w' A n f := fun i hi => by
  obtain ⟨g, off, e, hc⟩ := h i hi
  exact ⟨g, off, e, (Below.cell hb (p := ⟨g, off + i, none⟩) (cell_block hc)).trans hc⟩

/-- The first k characters with their flags. -/
def ps (l : List Int) (f : Nat → Bool) (k : Nat) : List (Int × Bool) := (List.range k).map fun i => (l.getD i 0, f i)
theorem ps_succ (l : List Int) (f : Nat → Bool) (k : Nat) : ps l f (k + 1) = ps l f k ++ [(l.getD k 0, f k)] := by simp [ps, List.range_succ]
theorem ps_len (l : List Int) (f : Nat → Bool) (k : Nat) : (ps l f k).length = k := by simp [ps]
theorem ps_fst (l : List Int) (f : Nat → Bool) : (ps l f l.length).map (·.1) = l := by
  apply List.ext_getElem
  · simp [ps]
  · intro i h1 h2
    simp [ps, List.getD, h2]
theorem ps_any_succ (l : List Int) (f : Nat → Bool) (k : Nat) : (ps l f (k + 1)).any (·.2) = ((ps l f k).any (·.2) || f k) := by rw [ps_succ]; simp
theorem ps_any_more (l : List Int) (f : Nat → Bool) (k : Nat) (hf : ∀ i, k ≤ i → f i = false) : ∀ j, (ps l f (k + j)).any (·.2) = (ps l f k).any (·.2)
  | 0 => rfl
  | j + 1 => by rw [← Nat.add_assoc, ps_any_succ, ps_any_more l f k hf j, hf (k + j) (by omega)]; simp
theorem mix_snoc' (l : List Int) (f : Nat → Bool) (k : Nat) {x : Int} {b : Bool} (hx : l[k]? = some x) (hb : f k = b) : mix (ps l f (k + 1)) = mix (ps l f k) ++ (if b = true then refL x else [x]) := by
  rw [ps_succ, mix_snoc, hb]
  simp [List.getD, hx]
theorem ps_scal (l : List Int) (f : Nat → Bool) (k : Nat) {x : Int} (h : ∀ p ∈ ps l f k, scB p.1 = true) (hx : l[k]? = some x) (hs : scB x = true) : ∀ p ∈ ps l f (k + 1), scB p.1 = true := by
  rw [ps_succ]
  intro p hp
  rcases List.mem_append.1 hp with hp | hp
  · exact h p hp
  · simp [List.getD, hx] at hp
    subst hp; exact hs

def BackRel (W : World) (l : List Int) (f : Nat → Bool) (v i : Value) (w : World) : Prop :=
  ∃ k : Nat, i = .int .i64 k ∧ k ≤ l.length ∧ Hid (∀ p ∈ ps l f k, scB p.1 = true) ∧ Hid (Own w W.heap.size 21 .i32 v (mix (ps l f k))) ∧ Bel W w
def SomeRel (W : World) (l : List Int) (f : Nat → Bool) (nw : Nat) (s i : Value) (w : World) : Prop :=
  ∃ (k : Nat) (d : Bool), i = .int .i64 k ∧ s = .bool d ∧ k ≤ l.length ∧ k ≤ nw ∧ Hid ((ps l f k).any (·.2) = d) ∧ w = W

set_option maxRecDepth 100000 in
set_option maxHeartbeats 4000000 in
theorem walk_back (A : Option Addr) (n cap : Nat) (l : List Int) (A2 : Option Addr) (nw cw : Nat) (fl : Nat → Bool) (w : World) (hT : Tz w) (h : Came .i32 w A n cap l) (hF : Flags w A2 nw fl) :
    Calls Tryd.prog 5 #[.slice A n cap, .slice A2 nw cw] w fun e w' => e = .returned (.bool true) ∧ Bel w w' := by
  obtain ⟨i0, hi0, hz0, hz1, hz2⟩ := info_parts info21
  obtain ⟨hl, hc, hrd, hnil, _⟩ := h
  have HT := Lib.hid hT
  have HL := Lib.hid hl
  have HR := Lib.hid hrd
  have HF := Lib.hid hF
  clear hT hl hrd hnil hF
  by_cases hbig : 200 < n
  · have hd1 : decide ((200 : Int) < (n : Int)) = true := by simp; omega
    go_enter Tryd.func5, Tryd.ntmps5
    go_wp2_with (go_at_call 8; (with_reducible refine (answers_any _ HT.out).mono ?_); rintro e w4 ⟨rfl, hb4⟩)
    go_ret
    exact ⟨rfl, hb4⟩
  · have hd1 : decide ((200 : Int) < (n : Int)) = false := by simp; omega
    obtain ⟨b, hb⟩ := has_ex l
    have HH := Lib.hid hb
    clear hb
    go_enter Tryd.func5, Tryd.ntmps5
    go_wp2_with fail
    refine (rhas_is A n cap l b w HR.out HL.out hc (by omega) HH.out).mono ?_
    rintro e w1 ⟨rfl, hb1⟩
    rcases b with _ | _
    · have HNO : Hid (∀ i, NoRef (l.drop i)) := Lib.hid (by
        rcases HH.out with ⟨_, h⟩ | ⟨h, _⟩
        · exact h
        · cases h)
      obtain ⟨f, hf⟩ : ∃ f : Nat → Bool, f = fun i => decide (i < nw) && fl i := ⟨_, rfl⟩
      have HFF := Lib.hid hf
      clear hf
      go_wp2
      go_loopw [5, 6] (fun v i wr => BackRel w1 l f v i wr) (fun _ i _ => n - (intOf i).toNat)
      case atStart => exact ⟨0, rfl, Nat.zero_le _, Lib.hid (by simp [ps]), Lib.hid (Own.nil _ _ _ _), Bel.refl _⟩
      case round =>
        obtain ⟨k, rfl, hk, HSC, HO, hb2⟩ := hrel
        rw [HL.out] at hk
        have hw2 := hb1.trans hb2
        have hsz2 := Below.size hb2
        have hmix : (mix (ps l f k)).length ≤ 10 * k := by have := mix_length (ps l f k); rwa [ps_len] at this
        by_cases hlt : k < n
        · obtain ⟨x, hx⟩ : ∃ x, l[k]? = some x := ⟨l[k]'(by rw [HL.out]; exact hlt), by simp⟩
          have HRr := Lib.hid (HR.out.bel hw2)
          obtain ⟨g, off, rfl, _, _⟩ := HRr.out.isSome (by rw [HL.out]; omega)
          have hcx : wr.cell? ⟨g, off + k, none⟩ = some (.int .i32 x) := HRr.out.at hx
          have q0 : (0 : Int) ≤ (k : Int) := by omega
          have q1 : (k : Int) < (n : Int) := by omega
          have HX := Lib.hid hx
          clear hx
          by_cases hs : scB x = true
          · have HS := Lib.hid hs
            have HSC2 := Lib.hid (ps_scal l f k HSC.out HX.out hs)
            clear hs
            have plain : f k = false → ∀ v3 w3, Own w3 w1.heap.size 21 .i32 v3 (mix (ps l f k) ++ [x]) → Own w3 w1.heap.size 21 .i32 v3 (mix (ps l f (k + 1))) := fun e v3 w3 h3 => by
              rw [mix_snoc' l f k HX.out e]; simpa using h3
            have HPL := Lib.hid plain
            clear plain
            by_cases hkw : k < nw
            · obtain ⟨g2, o2, rfl, hcf⟩ := HF.out.bel hw2 k hkw
              have q2 : (k : Int) < (nw : Int) := by omega
              by_cases hfl : fl k = true
              · rw [hfl] at hcf
                have HFK : Hid (f k = true) := Lib.hid (by rw [HFF.out]; simp [hkw, hfl])
                obtain ⟨m, hm⟩ : ∃ m, (refL x).length = m := ⟨_, rfl⟩
                have HM := Lib.hid hm
                have hm8 := ref_pos HS.out
                rw [hm] at hm8
                clear hm hfl
                go_wp2_with (first
                  | (go_at_call 10; (with_reducible refine (rscalar_is _ true _ HS.out).mono ?_); rintro e w' ⟨rfl, rfl⟩)
                  | fail)
                refine (ref_is x m wr HM.out).mono ?_
                rintro e w3 ⟨A3, cap3, rfl, hcap3, hown3, hrd3, hnil3, hb3⟩
                obtain ⟨g3, o3, rfl, _, _⟩ := hrd3.isSome (by rw [HM.out]; omega)
                obtain ⟨S3, cap4, w4, hrun3, hrun4, hown4, hcap4, hrd4, hb4⟩ := conv_both hrd3 (ref_asc x) HM.out (by omega)
                have hw4 : Bel wr w4 := hb3.trans hb4
                have hsz4 := Below.size hw4
                have HR4 := Lib.hid hrd4
                have HO4 := Lib.hid (HO.out.keep hw4)
                clear hown3 hrd3 hnil3 hown4 hrd4
                go_wp2_with (first
                  | (at_builtin; refine wpl_append (by rfl) (.tmp 40) (.tmp 47) 22 rfl Tryd.underlying22 hi0 hz0 hz1 hz2 rfl (by omega) HO4.out rfl HR4.out rfl HM.out (fun e => by cases e) (by omega) (by omega) ?_; intro v5 w5 hown5 hb5)
                  | fail)
                have hw5 : Bel w1 w5 := Below.trans (hb2.trans hw4) hb5
                have HO5 : Hid (Own w5 w1.heap.size 21 .i32 v5 (mix (ps l f (k + 1)))) := Lib.hid (by rw [mix_snoc' l f k HX.out HFK.out]; simpa using hown5)
                clear hown5
                try go_wp2
                go_roundw
                case rel => exact ⟨k + 1, by go_num, by rw [HL.out]; omega, HSC2, HO5, hw5⟩
                case measure => simp [intOf]; omega
              · have hfl' : fl k = false := by simpa using hfl
                rw [hfl'] at hcf
                have HFK : Hid (f k = false) := Lib.hid (by rw [HFF.out]; simp [hfl'])
                have HO4 := Lib.hid (HO.out.keep ((Bel.refl wr).alloc (.cells #[.int .i32 x] 21)))
                clear hfl hfl'
                go_wp2_with (first
                  | (go_at_call 10; (with_reducible refine (rscalar_is _ true _ HS.out).mono ?_); rintro e w' ⟨rfl, rfl⟩)
                  | (at_builtin; refine wpl_append (by rfl) (.tmp 49) (.tmp 54) 22 rfl Tryd.underlying22 hi0 hz0 hz1 hz2 rfl (by omega) HO4.out rfl (rd_lit (l := [x]) rfl) rfl rfl (fun e => by cases e) (by omega) (by simp; omega) ?_; intro v5 w5 hown5 hb5)
                  | fail)
                have hw5 : Bel w1 w5 := Below.trans (hb2.alloc _) hb5
                have HO5 := Lib.hid (HPL.out HFK.out _ _ hown5)
                clear hown5
                try go_wp2
                go_roundw
                case rel => exact ⟨k + 1, by go_num, by rw [HL.out]; omega, HSC2, HO5, hw5⟩
                case measure => simp [intOf]; omega
            · have q2 : ¬ (k : Int) < (nw : Int) := by omega
              have HFK : Hid (f k = false) := Lib.hid (by rw [HFF.out]; simp [hkw])
              have HO4 := Lib.hid (HO.out.keep ((Bel.refl wr).alloc (.cells #[.int .i32 x] 21)))
              go_wp2_with (first
                | (go_at_call 10; (with_reducible refine (rscalar_is _ true _ HS.out).mono ?_); rintro e w' ⟨rfl, rfl⟩)
                | (at_builtin; refine wpl_append (by rfl) (.tmp 49) (.tmp 54) 22 rfl Tryd.underlying22 hi0 hz0 hz1 hz2 rfl (by omega) HO4.out rfl (rd_lit (l := [x]) rfl) rfl rfl (fun e => by cases e) (by omega) (by simp; omega) ?_; intro v5 w5 hown5 hb5)
                | fail)
              have hw5 : Bel w1 w5 := Below.trans (hb2.alloc _) hb5
              have HO5 := Lib.hid (HPL.out HFK.out _ _ hown5)
              clear hown5
              try go_wp2
              go_roundw
              case rel => exact ⟨k + 1, by go_num, by rw [HL.out]; omega, HSC2, HO5, hw5⟩
              case measure => simp [intOf]; omega
          · have hs' : scB x = false := by simpa using hs
            have HTr := Lib.hid (HT.out.bel hw2)
            go_wp2_with (first
              | (go_at_call 10; (with_reducible refine (rscalar_is _ false _ hs').mono ?_); rintro e w' ⟨rfl, rfl⟩)
              | (go_at_call 8; (with_reducible refine (answers_any _ HTr.out).mono ?_); rintro e w4 ⟨rfl, hb4⟩))
            go_ret
            exact ⟨rfl, hw2.trans hb4⟩
        · have q1 : ¬ (k : Int) < (n : Int) := by omega
          obtain rfl : k = n := by omega
          have HSC' : Hid (∀ p ∈ ps l f l.length, scB p.1 = true) := by rw [HL.out]; exact HSC
          have HFST := Lib.hid (ps_fst l f)
          have HEX : Hid (Exp (mix (ps l f k)) l) := Lib.hid (by
            have := exp_mix HSC'.out (by rw [HFST.out]; exact HNO.out)
            rw [HFST.out, HL.out] at this; exact this)
          have HHM : Hid (HasIs (mix (ps l f k)) ((ps l f k).any (·.2))) := Lib.hid (by
            have := has_mix HSC'.out (by rw [HFST.out]; exact HNO.out)
            rw [HL.out] at this; exact this)
          obtain ⟨m, hm⟩ : ∃ m, (mix (ps l f k)).length = m := ⟨_, rfl⟩
          rw [hm] at hmix
          have HMX := Lib.hid hm
          obtain ⟨A5, cap5, rfl, hcap5, hrd5, hnil5⟩ := HO.out.rdn hm
          have HR5 := Lib.hid hrd5
          clear hm hrd5 hnil5
          go_wp2
          go_loopw [7, 8] (fun s i wr' => SomeRel wr l f nw s i wr') (fun _ i _ => k - (intOf i).toNat)
          case atStart => exact ⟨0, false, rfl, rfl, Nat.zero_le _, Nat.zero_le _, Lib.hid (by simp [ps]), rfl⟩
          case round =>
            obtain ⟨j, d, rfl, rfl, hj, hjw, HD, rfl⟩ := hrel
            rw [HL.out] at hj
            by_cases hgo : j < k ∧ j < nw
            · obtain ⟨hg1, hg2⟩ := hgo
              have q2 : (j : Int) < (k : Int) := by omega
              have q3 : (j : Int) < (nw : Int) := by omega
              have q4 : (0 : Int) ≤ (j : Int) := by omega
              obtain ⟨g2, o2, rfl, hcf⟩ := HF.out.bel hw2 j hg2
              have HFJ : Hid (f j = fl j) := Lib.hid (by rw [HFF.out]; simp [hg2])
              have HD2 : Hid ((ps l f (j + 1)).any (·.2) = (d || fl j)) := Lib.hid (by rw [ps_any_succ, HD.out, HFJ.out])
              generalize fl j = t at hcf HD2
              clear HFJ
              rcases d with _ | _
              · go_wp2
                go_roundw
                case rel => exact ⟨j + 1, t, by go_num, rfl, by rw [HL.out]; omega, by omega, by simpa using HD2, rfl⟩
                case measure => simp [intOf]; omega
              · go_wp2
                go_roundw
                case rel => exact ⟨j + 1, true, by go_num, rfl, by rw [HL.out]; omega, by omega, by simpa using HD2, rfl⟩
                case measure => simp [intOf]; omega
            · have HSOME : Hid ((ps l f k).any (·.2) = d) := Lib.hid (by
                rcases Nat.lt_or_ge j k with hjk | hjk
                · have e := ps_any_more l f j (fun i hi => by rw [HFF.out]; simp; omega) (k - j)
                  rw [show j + (k - j) = k by omega] at e
                  rw [e, HD.out]
                · obtain rfl : j = k := by omega
                  exact HD.out)
              have HHD : Hid (HasIs (mix (ps l f k)) d) := Lib.hid (by rw [← HSOME.out]; exact HHM.out)
              have HTr := Lib.hid (HT.out.bel hw2)
              clear HSOME HD
              by_cases hjk : j < k
              · have q2 : (j : Int) < (k : Int) := by omega
                have q3 : ¬ (j : Int) < (nw : Int) := by omega
                go_wp2_with fail
                refine (answers_any wr HTr.out).mono ?_
                rintro e w6 ⟨rfl, hb6⟩
                have hw6 := hw2.trans hb6
                go_wp2_with fail
                refine (expand_is A5 m cap5 (mix (ps l f k)) l k w6 (HR5.out.bel hb6) HMX.out hcap5 (by omega) HEX.out HL.out).mono ?_
                rintro e w7 ⟨A7, cap7, rfl, hcap7, hown7, hrd7, hnil7, hb7⟩
                have HR7 := Lib.hid hrd7
                have hw7 := hw6.trans hb7
                have HRw := Lib.hid (HR.out.bel hw7)
                clear hown7 hrd7 hnil7
                go_wp2_with fail
                refine (runes_is A7 A k k cap7 cap l l _ _ true w7 HR7.out HRw.out HL.out HL.out (by omega) (by simp)).mono ?_
                rintro e w8 ⟨rfl, q, rfl⟩
                have hw8 : Bel w (w7.drewN q) := hw7.drewN q
                have h5 : Bel wr (w7.drewN q) := (hb6.trans hb7).drewN q
                generalize w7.drewN q = W8 at hw8 h5 ⊢
                have hdd : (d == d) = true := by simp
                go_wp2_with fail
                refine (has_is A5 m cap5 (mix (ps l f k)) d W8 (HR5.out.bel h5) HMX.out hcap5 (by omega) HHD.out).mono ?_
                rintro e w9 ⟨rfl, hb9⟩
                go_wp2
                go_ret
                exact ⟨rfl, hw8.trans hb9⟩
              · have q2 : ¬ (j : Int) < (k : Int) := by omega
                go_wp2_with fail
                refine (answers_any wr HTr.out).mono ?_
                rintro e w6 ⟨rfl, hb6⟩
                have hw6 := hw2.trans hb6
                go_wp2_with fail
                refine (expand_is A5 m cap5 (mix (ps l f k)) l k w6 (HR5.out.bel hb6) HMX.out hcap5 (by omega) HEX.out HL.out).mono ?_
                rintro e w7 ⟨A7, cap7, rfl, hcap7, hown7, hrd7, hnil7, hb7⟩
                have HR7 := Lib.hid hrd7
                have hw7 := hw6.trans hb7
                have HRw := Lib.hid (HR.out.bel hw7)
                clear hown7 hrd7 hnil7
                go_wp2_with fail
                refine (runes_is A7 A k k cap7 cap l l _ _ true w7 HR7.out HRw.out HL.out HL.out (by omega) (by simp)).mono ?_
                rintro e w8 ⟨rfl, q, rfl⟩
                have hw8 : Bel w (w7.drewN q) := hw7.drewN q
                have h5 : Bel wr (w7.drewN q) := (hb6.trans hb7).drewN q
                generalize w7.drewN q = W8 at hw8 h5 ⊢
                have hdd : (d == d) = true := by simp
                go_wp2_with fail
                refine (has_is A5 m cap5 (mix (ps l f k)) d W8 (HR5.out.bel h5) HMX.out hcap5 (by omega) HHD.out).mono ?_
                rintro e w9 ⟨rfl, hb9⟩
                go_wp2
                go_ret
                exact ⟨rfl, hw8.trans hb9⟩
    · go_wp2_with (go_at_call 8; (with_reducible refine (answers_any _ (HT.out.bel hb1)).mono ?_); rintro e w4 ⟨rfl, hb4⟩)
      go_ret
      exact ⟨rfl, hb1.trans hb4⟩
end Go.Proofs.YtfggeofknmdmfaaDoor.U
