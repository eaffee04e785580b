/- What slices.insertionSortCmpFunc makes of a run of marks: it is sorted, stable. -/
import Derived.Test.YtfgpgmfajjakpaaDoorSwapR
namespace Go.Proofs.YtfgpgmfajjakpaaDoor.U
open Go.RowKit
set_option linter.unusedVariables false

/-- The row with a run of it sorted. -/
def Sorted (base : Nat) (w0 : World) (g off : Nat) (p s q : List Int) (e : Ending) (w' : World) : Prop := e = .returned (.tuple #[]) ∧ ∃ s', St s s' ∧ Sd s' ∧ In base w0 g off (p ++ (s' ++ q)) w'

def InsOut (base : Nat) (w0 : World) (g off a b : Nat) (p s q : List Int) (i : Value) (w : World) : Prop :=
  ∃ k : Nat, i = .int .i64 k ∧ a < k ∧ k ≤ b ∧ Hid (∃ t r, a + t.length = k ∧ Sd t ∧ St s (t ++ r) ∧ In base w0 g off (p ++ ((t ++ r) ++ q)) w)
def InsIn (base : Nat) (w0 : World) (g off a : Nat) (p s q t r : List Int) (v : Int) (j : Value) (w : World) : Prop :=
  ∃ k : Nat, j = .int .i64 k ∧ a ≤ k ∧ k ≤ a + t.length ∧ Hid (∃ t1 t2, a + t1.length = k ∧ t = t1 ++ t2 ∧ (∀ u ∈ t2, cls v < cls u) ∧ In base w0 g off (p ++ ((t1 ++ v :: (t2 ++ r)) ++ q)) w)

/-- A mark put among sorted ones: behind those that are not greater, ahead of those that are. -/
theorem ins_done {t1 t2 : List Int} {v : Int} (h : Sd (t1 ++ t2)) (h2 : ∀ u ∈ t2, cls v < cls u) (h1 : ∀ u, t1.getLast? = some u → cls u ≤ cls v) : Sd (t1 ++ v :: t2) := by
  have hs := sd_append.1 h
  refine sd_append.2 ⟨hs.1, ?_, ?_⟩
  · exact List.pairwise_cons.2 ⟨fun u hu => Int.le_of_lt (h2 u hu), hs.2.1⟩
  · intro x hx y hy
    rcases List.mem_cons.1 hy with rfl | hy
    · rcases List.eq_nil_or_concat t1 with rfl | ⟨t, u, rfl⟩
      · simp at hx
      · have hu := h1 u (by simp)
        rw [List.concat_eq_append] at hx hs
        rcases List.mem_append.1 hx with hx | hx
        · have := (sd_append.1 hs.1).2.2 x hx u (by simp)
          omega
        · simp at hx
          subst hx
          exact hu
    · exact hs.2.2 x hx y hy
theorem ins_st {t1 t2 r : List Int} {v : Int} (hM : Mk (t1 ++ t2 ++ v :: r)) (h2 : ∀ u ∈ t2, cls v < cls u) : St (t1 ++ t2 ++ v :: r) (t1 ++ v :: (t2 ++ r)) := by
  have h1 : St (t2 ++ [v]) ([v] ++ t2) := St.rot (fun u hu => hM u (by simp [hu])) (fun u hu => hM u (by simp at hu; simp [hu])) (fun u hu w hw => by
    simp at hw
    subst hw
    have := h2 u hu
    omega)
  have h3 := (St.refl t1).append (h1.append (St.refl r))
  simpa using h3

set_option maxRecDepth 1000000 in
set_option maxHeartbeats 8000000 in
theorem ins_is (base g off cap a b N : Nat) (p s q : List Int) (w0 w : World) (hI : In base w0 g off (p ++ (s ++ q)) w) (hp : p.length = a) (hb : a + s.length = b) (hM : Mk s)
    (hN : (p ++ (s ++ q)).length = N) (hsz : N ≤ 1099511627776) :
    Calls Tryd.prog 52 #[.slice (some ⟨g, off, none⟩) N cap, .int .i64 a, .int .i64 b, .func (.func 27) #[] #[]] w (Sorted base w0 g off p s q) := by
  have hN' : a + s.length + q.length = N := by simp at hN; omega
  have eg := enters27
  have hmix := mixed
  have HI := Lib.hid hI
  have HP := Lib.hid hp
  have HM := Lib.hid hM
  have HB := Lib.hid hb
  have HN := Lib.hid hN'
  have hbN : b ≤ N := by omega
  clear hI hp hM hN hN'
  by_cases hs0 : s = []
  · have hab : b = a := by rw [hs0] at hb; simp at hb; omega
    have hF : Hid (∃ s', St s s' ∧ Sd s' ∧ In base w0 g off (p ++ (s' ++ q)) w) := Lib.hid ⟨s, St.refl _, by rw [hs0]; exact sd_nil, HI.out⟩
    subst hab
    clear hb HI hs0
    have q1 : ¬ (b : Int) + 1 < (b : Int) := by omega
    go_enter Tryd.func52, Tryd.ntmps52
    go_wp2
    go_loopw [8] (fun i wr => i = .int .i64 ((b : Int) + 1) ∧ wr = w) (fun i _ => 0)
    case atStart => exact ⟨rfl, rfl⟩
    case round =>
      obtain ⟨rfl, rfl⟩ := hrel
      go_wp2
      go_end0
      exact ⟨rfl, hF.out⟩
  · have hab : a < b := by
      have : 0 < s.length := List.length_pos_iff.2 hs0
      omega
    have HS := Lib.hid hs0
    clear hs0 hb
    go_enter Tryd.func52, Tryd.ntmps52
    go_wp2
    go_loopw [8] (fun i wr => InsOut base w0 g off a b p s q i wr) (fun i _ => b - (intOf i).toNat)
    case atStart =>
      refine ⟨a + 1, by go_num, by omega, by omega, Lib.hid ?_⟩
      cases s with
      | nil => exact absurd rfl HS.out
      | cons c s => exact ⟨[c], s, rfl, sd_one c, St.refl _, HI.out⟩
    case round =>
      clear HI
      obtain ⟨k, rfl, hak, hkb, HO⟩ := hrel
      by_cases hlt : k < b
      · obtain ⟨t, v, r, ht, hsd, hst, hin⟩ : ∃ t v r, a + t.length = k ∧ Sd t ∧ St s (t ++ v :: r) ∧ In base w0 g off (p ++ ((t ++ v :: r) ++ q)) wr := by
          obtain ⟨t, r, ht, hsd, hst, hin⟩ := HO.out
          cases r with
          | nil =>
            have h5 := hst.length
            have h6 := HB.out
            rw [List.length_append, List.length_nil] at h5
            omega
          | cons v r => exact ⟨t, v, r, ht, hsd, hst, hin⟩
        have HIN := Lib.hid hin
        have HT := Lib.hid ht
        have HSD := Lib.hid hsd
        have HST := Lib.hid hst
        have hkz : (k : Int) < (b : Int) := by omega
        clear hin ht hsd hst HO
        generalize wr = wo at HIN ⊢
        clear wr
        go_wp2
        go_loopw [9] (fun j wr => InsIn base w0 g off a p s q t r v j wr) (fun j _ => (intOf j).toNat)
        case atStart => exact ⟨k, rfl, by omega, by have := HT.out; omega, Lib.hid ⟨t, [], HT.out, by simp, by simp, by simpa using HIN.out⟩⟩
        case round =>
          clear HIN
          obtain ⟨j, rfl, haj, hjk, HJ⟩ := hrel
          rw [HT.out] at hjk
          -- what the outer round's end wants
          have OUT : Hid (∀ w', (∃ t1 t2, a + t1.length = j ∧ t = t1 ++ t2 ∧ (∀ u ∈ t2, cls v < cls u) ∧ (∀ u, t1.getLast? = some u → cls u ≤ cls v) ∧ In base w0 g off (p ++ ((t1 ++ v :: (t2 ++ r)) ++ q)) w') → InsOut base w0 g off a b p s q (.int .i64 ((k : Int) + 1)) w') := Lib.hid fun w' ⟨t1, t2, h1, h2, h3, h4, h5⟩ => by
            have hM' : Mk (t1 ++ t2 ++ v :: r) := by rw [← h2]; exact HM.out.st HST.out
            refine ⟨k + 1, by go_num, by omega, by omega, Lib.hid ⟨t1 ++ v :: t2, r, ?_, ins_done (by rw [← h2]; exact HSD.out) h3 h4, ?_, by simpa using h5⟩⟩
            · have := HT.out
              rw [h2] at this
              simp at this ⊢
              omega
            · refine HST.out.trans ?_
              rw [h2]
              have := ins_st hM' h3
              simpa using this
          by_cases hja : a < j
          · obtain ⟨jp, hjp⟩ : ∃ jp, jp + 1 = j := ⟨j - 1, by omega⟩
            obtain ⟨t1, u, t2, h1, h2, h3, hin⟩ : ∃ t1 u t2, a + t1.length = jp ∧ t = t1 ++ u :: t2 ∧ (∀ u ∈ t2, cls v < cls u) ∧ In base w0 g off ((p ++ t1) ++ u :: ([] ++ v :: ((t2 ++ r) ++ q))) wr := by
              obtain ⟨t1, t2, h1, h2, h3, hin⟩ := HJ.out
              rcases List.eq_nil_or_concat t1 with rfl | ⟨t0, u, rfl⟩
              · simp at h1; omega
              · rw [List.concat_eq_append] at h1 h2 hin
                refine ⟨t0, u, t2, by simp at h1; omega, by rw [h2]; simp, h3, by simpa using hin⟩
            clear HJ
            have hpp := HP.out
            have hA : (p ++ t1).length = jp := by rw [List.length_append]; omega
            have g1 := at_mid (p ++ t1) u ([] ++ v :: ((t2 ++ r) ++ q)) hA
            have g2 := at_mid2 (p ++ t1) u [] v ((t2 ++ r) ++ q) hA (j := j) (by simp; omega)
            have hne : j ≠ jp := by omega
            have zj : (j : Int) = (jp : Int) + 1 := by omega
            have hjaz : (a : Int) < (jp : Int) + 1 := by omega
            have hjad : decide ((jp : Int) + 1 > (a : Int)) = true := decide_eq_true (by omega)
            have ea : ((jp : Int) + 1).toNat = j := by omega
            have pa : (0 : Int) ≤ (jp : Int) + 1 := by omega
            have ba : (jp : Int) + 1 < (N : Int) := by omega
            have ra : IntKind.i64.wrap ((jp : Int) + 1) = (jp : Int) + 1 := by rw [IntKind.wrap_i64]; omega
            have ec : ((jp : Int)).toNat = jp := by omega
            have pc : (0 : Int) ≤ (jp : Int) := by omega
            have bc : (jp : Int) < (N : Int) := by omega
            have rc : IntKind.i64.wrap ((jp : Int)) = (jp : Int) := by rw [IntKind.wrap_i64]; omega
            have la := hin.cells g2
            have lb := hin.cells g1
            obtain ⟨c, hc⟩ : ∃ c, cmpI (cls v) (cls u) = c := ⟨_, rfl⟩
            have hcc := hin.comp v u c hc
            have HIN := Lib.hid hin
            have HG1 := Lib.hid g1
            have HG2 := Lib.hid g2
            by_cases hvu : cls v < cls u
            · have hd : c < 0 := by rw [← hc]; exact cmpI_neg.2 hvu
              have hdd : decide (c < 0) = true := decide_eq_true hd
              have HSW : Hid (∀ w', In base w0 g off ((p ++ t1) ++ u :: ([] ++ v :: ((t2 ++ r) ++ q))) w' → In base w0 g off ((p ++ t1) ++ v :: ([] ++ u :: ((t2 ++ r) ++ q))) ((w'.setCell ⟨g, off + j, none⟩ (.int .i32 u)).setCell ⟨g, off + jp, none⟩ (.int .i32 v)).drew) := Lib.hid fun w' hi => by
                refine hi.swap HG2.out HG1.out hne fun k => ?_
                rw [swap_mid (p ++ t1) u v [] ((t2 ++ r) ++ q) hA (j := j) (by simp; omega) k]
                by_cases e1 : k = jp
                · rw [if_pos e1, if_neg (by omega), if_pos e1]
                · rw [if_neg e1]
                  by_cases e2 : k = j
                  · rw [if_pos e2, if_pos e2]
                  · rw [if_neg e2, if_neg e2, if_neg e1]
              have HV : Hid (∀ w', In base w0 g off ((p ++ t1) ++ v :: ([] ++ u :: ((t2 ++ r) ++ q))) w' → InsIn base w0 g off a p s q t r v (.int .i64 (jp : Int)) w') := Lib.hid fun w' hi =>
                ⟨jp, rfl, by omega, by have := HT.out; omega, Lib.hid ⟨t1, u :: t2, h1, h2, fun z hz => by rcases List.mem_cons.1 hz with rfl | hz; exact hvu; exact h3 z hz, by simpa using hi⟩⟩
              clear hin g1 g2 hA h1 h2 h3 hc hvu hpp OUT
              rw [zj]
              clear zj
              go_wp2_with fail
              go_quiet_grown (first | (go_at_fn 27; refine Calls.grown_of (hcc _ _)))
              have S2 : Hid (In base w0 g off ((p ++ t1) ++ u :: ([] ++ v :: ((t2 ++ r) ++ q))) (Sort.grow (wr.drewN nq) osq)) := Lib.hid (HIN.out.gr ⟨nq, osq, rfl⟩)
              clear la lb hcc HIN
              generalize Sort.grow (wr.drewN nq) osq = w2 at S2 ⊢
              have c1 := S2.out.cell HG2.out
              have c2 := S2.out.cell HG1.out
              have f1 := S2.out.free HG2.out
              have f2 := S2.out.free HG1.out
              have c3 := S2.out.c2 HG1.out hne (.int .i32 u)
              have S3 : Hid (In base w0 g off ((p ++ t1) ++ v :: ([] ++ u :: ((t2 ++ r) ++ q))) ((w2.setCell ⟨g, off + j, none⟩ (.int .i32 u)).setCell ⟨g, off + jp, none⟩ (.int .i32 v)).drew) := Lib.hid (HSW.out _ S2.out)
              clear S2 HSW HG1 HG2 hne
              go_wp2_with fail
              go_region
              clear c1 c2 c3 f1 f2
              generalize ((w2.setCell ⟨g, off + j, none⟩ (.int .i32 u)).setCell ⟨g, off + jp, none⟩ (.int .i32 v)).drew = w3 at S3 ⊢
              clear ea ec
              go_wp2
              go_roundw
              case rel => exact HV.out _ S3.out
              case measure => simp [intOf]
            · have hd : ¬ c < 0 := by rw [← hc]; exact fun h => hvu (cmpI_neg.1 h)
              have hdd : decide (c < 0) = false := decide_eq_false hd
              have HV : Hid (∀ w', In base w0 g off ((p ++ t1) ++ u :: ([] ++ v :: ((t2 ++ r) ++ q))) w' → InsOut base w0 g off a b p s q (.int .i64 ((k : Int) + 1)) w') := Lib.hid fun w' hi =>
                OUT.out w' ⟨t1 ++ [u], t2, by simp; omega, by rw [h2]; simp, h3, fun z hz => by simp at hz; subst hz; omega, by simpa using hi⟩
              clear hin g1 g2 hA h1 h2 h3 hc hvu hpp OUT
              rw [zj]
              clear zj
              go_wp2_with fail
              go_quiet_grown (first | (go_at_fn 27; refine Calls.grown_of (hcc _ _)))
              have S2 : Hid (In base w0 g off ((p ++ t1) ++ u :: ([] ++ v :: ((t2 ++ r) ++ q))) (Sort.grow (wr.drewN nq) osq)) := Lib.hid (HIN.out.gr ⟨nq, osq, rfl⟩)
              clear la lb hcc HIN
              generalize Sort.grow (wr.drewN nq) osq = w2 at S2 ⊢
              clear ea ec
              go_wp2
              go_roundw
              case rel => exact HV.out _ S2.out
              case measure => simp [intOf]; omega
          · obtain rfl : j = a := by omega
            have hjaz : decide ((j : Int) > (j : Int)) = false := decide_eq_false (by omega)
            have hjaz' : ¬ (j : Int) < (j : Int) := by omega
            have HV : Hid (InsOut base w0 g off j b p s q (.int .i64 ((k : Int) + 1)) wr.drew) := Lib.hid (OUT.out _ (by
              obtain ⟨t1, t2, h1, h2, h3, hin⟩ := HJ.out
              obtain rfl : t1 = [] := List.eq_nil_of_length_eq_zero (by omega)
              exact ⟨[], t2, h1, h2, h3, by simp, hin.by (Bel.refl _).drew⟩))
            clear HJ OUT
            go_wp2_with fail
            go_region
            generalize wr.drew = w2 at HV ⊢
            go_wp2
            go_roundw
            case rel => exact HV.out
            case measure => simp [intOf]; omega
      · have hF : Hid (∃ s', St s s' ∧ Sd s' ∧ In base w0 g off (p ++ (s' ++ q)) wr) := Lib.hid (by
          obtain ⟨t, r, ht, hsd, hst, hin⟩ := HO.out
          have h1 := hst.length
          have h2 := HB.out
          rw [List.length_append] at h1
          obtain rfl : r = [] := List.eq_nil_of_length_eq_zero (by omega)
          exact ⟨t, by simpa using hst, hsd, by simpa using hin⟩)
        have hltz : ¬ (k : Int) < (b : Int) := by omega
        clear HO
        go_wp2
        go_end0
        exact ⟨rfl, hF.out⟩
end Go.Proofs.YtfgpgmfajjakpaaDoor.U
