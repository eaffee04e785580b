/- What cluster.Clusters answers: the text taken apart, cut ahead of each that is no mark (the first one always begins). Which characters come to e when they are taken apart: e, and nineteen more; none of these has a code. Plain mathematics. slices.IndexFunc and slices.DeleteFunc of runes, by a predicate that may lay blocks. The list of all orders; those that begin with one mark; how many there are. What cluster.without answers: the marks without the first one of each that is told. More than seven hundred characters have a code. Plain mathematics. What apart, one and bases answer. The ways of e with an acute: of another character with a code none; of e itself one. -/
import Derived.Test.YtipigfgnpfhdbaaGreatDoorM9
import Derived.Test.YtipigfgnpfhdbaaGreatDoorM10
import Derived.Test.YtipigfgnpfhdbaaGreatDoorM12
import Derived.Test.YtipigfgnpfhdbaaGreatDoorM6
import Derived.Test.YtipigfgnpfhdbaaGreatDoorM5
import Derived.Test.YtipigfgnpfhdbaaGreatDoorM7
import Derived.Deep.RegionHeld3
namespace Go.Proofs.YtipigfgnpfhdbaaGreatDoor.K
open Go.RowKit U F
set_option linter.unusedVariables false

def mk (x : Int) : Bool := decide (0 < cls x)
/-- Cut ahead of each that is no mark. -/
def clusF : Nat → List Int → List (List Int)
  | 0, _ => []
  | _ + 1, [] => []
  | k + 1, x :: t => (x :: t.takeWhile mk) :: clusF k (t.dropWhile mk)
theorem drop_len (t : List Int) : (t.dropWhile mk).length ≤ t.length := (List.dropWhile_sublist _).length_le
theorem clusF_more : ∀ (k j : Nat) (l : List Int), l.length ≤ k → l.length ≤ j → clusF k l = clusF j l
  | 0, 0, _, _, _ => rfl
  | 0, j + 1, [], _, _ => rfl
  | 0, _ + 1, _ :: _, h, _ => by simp at h
  | k + 1, 0, [], _, _ => rfl
  | _ + 1, 0, _ :: _, _, h => by simp at h
  | k + 1, j + 1, [], _, _ => rfl
  | k + 1, j + 1, x :: t, h1, h2 => by
    have h3 := drop_len t
    simp only [List.length_cons] at h1 h2
    simp only [clusF]
    rw [clusF_more k j _ (by omega) (by omega)]
def clus (l : List Int) : List (List Int) := clusF l.length l
theorem clus_cons (x : Int) (t : List Int) : clus (x :: t) = (x :: t.takeWhile mk) :: clus (t.dropWhile mk) := by
  unfold clus
  simp only [List.length_cons, clusF]
  rw [clusF_more t.length (t.dropWhile mk).length _ (drop_len t) (Nat.le_refl _)]
theorem clus_nil : clus [] = [] := rfl
/-- The marks that it begins with, by their number. -/
theorem take_marks : ∀ (t : List Int) (k : Nat), k ≤ t.length → (∀ (i : Nat) (x : Int), i < k → t[i]? = some x → 0 < cls x) → (∀ x, t[k]? = some x → cls x = 0) → t.takeWhile mk = t.take k ∧ t.dropWhile mk = t.drop k
  | [], 0, _, _, _ => ⟨rfl, rfl⟩
  | x :: t, 0, _, _, h => by
    have h1 : mk x = false := by
      have := h x (by simp)
      simp [mk, this]
    simp [h1]
  | x :: t, k + 1, hk, h1, h2 => by
    have h3 : mk x = true := by
      have := h1 0 x (by omega) (by simp)
      simp [mk, this]
    have h4 := take_marks t k (by simpa using hk) (fun i y hi hy => h1 (i + 1) y (by omega) (by simpa using hy)) (fun y hy => h2 y (by simpa using hy))
    simp [h3, h4.1, h4.2]
def CluP (w : World) (L : List (List Int)) (e : Ending) (w' : World) : Prop := ∃ v, e = .returned v ∧ LOwn w' w.heap.size v L ∧ Bel w w'
def CluRel (w : World) (S : List (List Int)) (v u : Value) (wr : World) : Prop :=
  ∃ (A : Option Addr) (n c : Nat), u = .slice A n c ∧ n ≤ c ∧ n ≤ 1000 ∧ Hid (∃ (R : List Int) (D : List (List Int)), R.length = n ∧ U.Rd wr wr.heap.size .i32 A R ∧ LOwn wr w.heap.size v D ∧ D ++ clus R = S ∧ D.length + n ≤ 1000 ∧ Bel w wr ∧ ∀ g off, A = some ⟨g, off, none⟩ → v.ownBlock ≠ some g)
theorem rd_far {w w' : World} {B g off : Nat} {row : Option Nat} {kd : IntKind} {l : List Int} (h : U.Rd w B kd (some ⟨g, off, none⟩) l) (hg : w.grownBy w' row) (hs : w.heap.size ≤ w'.heap.size) (hne : row ≠ some g) : U.Rd w' w'.heap.size kd (some ⟨g, off, none⟩) l := fun i x hx => by
  obtain ⟨g1, o1, e, _, hc⟩ := h i x hx
  cases e
  have hlt : g < w.heap.size := cell_block (p := ⟨g, off + i, none⟩) hc
  refine ⟨g, off, rfl, by omega, ?_⟩
  have hb := hg.block g hlt (fun e => hne e.symm)
  unfold World.cell? at hc ⊢
  rw [show (Addr.mk g (off + i) none).block = g from rfl] at hc ⊢
  rw [hb]
  exact hc
theorem rd_tail' {w : World} {C g off n c k : Nat} {kd : IntKind} {l : List Int} (h : U.Rd w C kd (some ⟨g, off, none⟩) l) (hl : l.length = n) (hc : n ≤ c) : U.Rd w C kd (if c = k then some ⟨g, off, none⟩ else some ⟨g, off + k, none⟩) (l.drop k) := by
  split
  · rw [List.drop_eq_nil_of_le (by omega)]
    exact fun i x hx => by simp at hx
  · exact h.drop
/-- The numbers of a round. -/
structure CNum (n2 c2 k k1 : Nat) : Prop where
  e : k1 = k + 1
  i : 1 + (k : Int) = (k1 : Int)
  w : wrap64 (1 + (k : Int)) = (k1 : Int)
  a : (0 : Int) ≤ (k1 : Int)
  b : (k1 : Int) ≤ (n2 : Int)
  c : (k1 : Int) ≤ (c2 : Int)
  d : k1 ≤ n2
theorem cnum {n2 c2 k lt : Nat} (h : lt + 1 = n2) (hk : k ≤ lt) (hc : n2 ≤ c2) (hn : n2 ≤ 1000) : ∃ k1, CNum n2 c2 k k1 :=
  ⟨k + 1, rfl, by omega, by unfold wrap64; omega, by omega, by omega, by omega, by omega⟩
/-- What is left behind a round. -/
theorem clu_next {w w3 : World} {S D : List (List Int)} {x : Int} {t : List Int} {k k1 n2 c2 g off : Nat} {v : Value} (hlen : (x :: t).length = n2) (hcn : CNum n2 c2 k k1) (hc : n2 ≤ c2) (hn : n2 ≤ 1000) (htm : t.takeWhile mk = t.take k ∧ t.dropWhile mk = t.drop k)
    (hs : D ++ clus (x :: t) = S) (hd : D.length + n2 ≤ 1000) (hrd : U.Rd w3 w3.heap.size .i32 (some ⟨g, off, none⟩) (x :: t)) (hv : LOwn w3 w.heap.size v (D ++ [(x :: t).take k1])) (hb : Bel w w3) (hne : v.ownBlock ≠ some g) :
    CluRel w S v (.slice (if c2 = k1 then some ⟨g, off, none⟩ else some ⟨g, off + k1, none⟩) (n2 - k1) (c2 - k1)) w3 := by
  have e := hcn.e
  have d := hcn.d
  refine ⟨_, _, _, rfl, by omega, by omega, Lib.hid ⟨(x :: t).drop k1, D ++ [(x :: t).take k1], by rw [List.length_drop, hlen], rd_tail' hrd hlen hc, hv, ?_, by rw [List.length_append, List.length_singleton]; omega, hb, fun g' o' h => ?_⟩⟩
  · rw [← hs, clus_cons, htm.1, htm.2, e]
    simp
  · split at h <;> cases h <;> exact hne

set_option maxRecDepth 100000 in
set_option maxHeartbeats 4000000 in
theorem clusters_is (A : Option Addr) (n c C : Nat) (l L : List Int) (m : Nat) (w : World) (hr : U.Rd w C .i32 A l) (hl : l.length = n) (hS : F.Sp w) (hO : Ord (apL l) L) (hm : L.length = m) (hm2 : m ≤ 1000) (hn : n ≤ 1000) :
    Calls Tryz.prog 23 #[.slice A n c] w (CluP w (clus L)) := by
  have HN := Lib.hid (nfd_as A n c C l L m w hr hl (by omega) hS hO hm)
  have HS := Lib.hid hS
  have HM := Lib.hid hm
  clear hr hl hS hO hm
  go_enter Tryz.func23, Tryz.ntmps23
  go_wp2_with fail
  with_reducible refine HN.out.mono ?_
  rintro e w1 ⟨A1, cap1, rfl, hcap, hA1, H1, _, hb1⟩
  have H0 : CluRel w (clus L) (.slice none 0 0) (.slice A1 m cap1) w1 := ⟨A1, m, cap1, rfl, hcap, hm2, Lib.hid ⟨L, [], HM.out, H1.out, LOwn.nil _ _, rfl, by simpa using hm2, hb1, fun g off _ h => by cases h⟩⟩
  have HH0 := Lib.hid H0
  clear H0 H1 hA1 hb1 hcap HN hm2 hn
  go_wp2
  go_loopw [3, 4] (fun v u wr => CluRel w (clus L) v u wr) (fun v u _ => match u with | .slice _ n _ => n | _ => 0)
  case atStart => exact HH0.out
  case round =>
    clear HH0
    obtain ⟨A2, n2, c2, rfl, hnc, hn2, HK⟩ := hrel
    have HNC := Lib.hid (And.intro hnc hn2)
    by_cases hpos : 0 < n2
    · obtain ⟨R, D, hR, hrd, hv, hs, hd, hb, hfar⟩ := HK.out
      obtain ⟨g, off, rfl, _, _⟩ := hrd.isSome (by omega)
      obtain ⟨x, t, rfl⟩ : ∃ x t, R = x :: t := by
        cases R with
        | nil => simp at hR; omega
        | cons x t => exact ⟨x, t, rfl⟩
      have q0 : (0 : Int) < (n2 : Int) := by omega
      have q1 : (1 : Int) ≤ (n2 : Int) := by omega
      have q2 : (n2 : Int) ≤ (c2 : Int) := by omega
      have hlt : t.length + 1 = n2 := by simpa using hR
      have HR := Lib.hid (And.intro hR hlt)
      have HRd := Lib.hid hrd
      have HV := Lib.hid hv
      have HSe := Lib.hid (And.intro hs hd)
      have HB := Lib.hid hb
      have HP := Lib.hid hpos
      have HFar := Lib.hid (hfar g off rfl)
      have hglt : g < wr.heap.size := by
        obtain ⟨g1, o1, e, h1, _⟩ := hrd 0 x rfl
        cases e
        exact h1
      have HGlt := Lib.hid hglt
      obtain ⟨A3, hA3⟩ : ∃ A3, (if c2 = 1 then some (Addr.mk g off none) else some (Addr.mk g (off + 1) none)) = A3 := ⟨_, rfl⟩
      have hrdd := rd_tail' (k := 1) hrd hR hnc
      rw [hA3] at hrdd
      have HC := Lib.hid (count_marks A3 (n2 - 1) (c2 - 1) wr.heap.size t wr hrdd (by omega) (by omega) (HS.out.by hb))
      clear hR hrd hv hs hd hb HK hpos hlt hrdd hfar hglt hn2
      go_wp2_with fail
      with_reducible refine HC.out.mono ?_
      rintro e w2 ⟨k, rfl, hk, HKK, hg2⟩
      obtain ⟨k1, hcn⟩ := cnum HR.out.2 hk HNC.out.1 HNC.out.2
      have p0 := hcn.a
      have p1 := hcn.c
      have pw := hcn.w
      have p2 := hcn.d
      have p3 := hcn.b
      have HCN := Lib.hid hcn
      have HB2 := Lib.hid hg2.bel
      have HTM := Lib.hid (take_marks t k hk HKK.out.1 HKK.out.2)
      have HCl := Lib.hid (clone_is (some ⟨g, off, none⟩) k1 c2 wr.heap.size ((x :: t).take k1) w2 ((HRd.out.bel HB2.out).take) (by rw [List.length_take, HR.out.1]; have := hcn.d; omega) (by have := hcn.d; have := HNC.out.2; omega) (fun e => by cases e))
      have hkl : ((x :: t).take k1).length = k1 := by rw [List.length_take, HR.out.1]; have := hcn.d; omega
      have HKl := Lib.hid hkl
      obtain ⟨A4, hA4⟩ : ∃ A4, (if c2 = k1 then some (Addr.mk g off none) else some (Addr.mk g (off + k1) none)) = A4 := ⟨_, rfl⟩
      clear hcn hk HKK hg2 HC q0 q1 q2 hkl
      go_wp2_with fail
      with_reducible refine HCl.out.mono ?_
      rintro e w3 ⟨v3, rfl, ho3, hb3⟩
      obtain ⟨A5, cap5, rfl, _, _, _⟩ := ho3.rdn HKl.out
      have hbr : Bel wr w3 := HB2.out.trans hb3
      have hc4 : (w3.alloc (.cells #[(Value.slice A5 k1 cap5)] 22)).cell? ⟨w3.heap.size, 0, none⟩ = some (Value.slice A5 k1 cap5) := F.cell_box w3 (Value.slice A5 k1 cap5) 22
      have hb4 : Bel wr (w3.alloc (.cells #[(Value.slice A5 k1 cap5)] 22)) := hbr.alloc _
      have hsw := Below.size HB.out
      have hs2 := Below.size HB2.out
      have hs4 : w.heap.size ≤ (w3.alloc (.cells #[(Value.slice A5 k1 cap5)] 22)).heap.size := Nat.le_trans hsw (Below.size hb4)
      have HO4 := Lib.hid ((ho3.keep ((Bel.refl w3).alloc (.cells #[(Value.slice A5 k1 cap5)] 22))).less (Nat.le_trans hsw hs2))
      have HV4 := Lib.hid (HV.out.keep hb4)
      have HB4 := Lib.hid hb4
      have hpl : D.length + 1 ≤ 1000000 := by have := HSe.out.2; omega
      clear ho3 hb3 hbr hsw hs2 hb4 HCl
      go_wp2_with (first
        | (at_builtin; refine wpl_append_l (by rfl) (.tmp 15) (.tmp 20) rfl HV4.out rfl rfl hc4 HO4.out hpl hs4 ?_
           intro v6 w6 hown6 hb6 hgr6 hbl6
           have H6 := Lib.hid (And.intro hown6 (And.intro hb6 (And.intro hgr6 hbl6)))
           clear hown6 hb6 hgr6 hbl6)
        | fail)
      have HF : Hid (CluRel w (clus L) v6 (.slice A4 (n2 - k1) (c2 - k1)) w6) := Lib.hid (by
        obtain ⟨k1', k2', k3', k4'⟩ := H6.out
        rw [← hA4]
        have hlt4 := Nat.lt_of_lt_of_le HGlt.out (Below.size HB4.out)
        have hne : u3.ownBlock ≠ some g := HFar.out
        refine clu_next HR.out.1 HCN.out HNC.out.1 HNC.out.2 HTM.out HSe.out.1 HSe.out.2 (rd_far (HRd.out.bel HB4.out) k3' (Below.size k2') hne) k1' (Below.trans (HB.out.trans HB4.out) k2') (fun e => ?_)
        rcases k4' with h | h
        · exact hne (h.symm.trans e)
        · rw [e] at h
          cases h
          omega)
      have hmm : n2 - k1 < n2 := by have := HCN.out.e; have := HCN.out.d; omega
      have HMM := Lib.hid hmm
      clear hc4 HO4 HV4 HB4 hpl hs4 H6 hmm
      go_wp2
      go_roundw
      case rel => exact HF.out
      case measure => exact HMM.out
    · obtain ⟨R, D, hR, hrd, hv, hs, hd, hb, hfar⟩ := HK.out
      obtain rfl : n2 = 0 := by omega
      obtain rfl := List.eq_nil_of_length_eq_zero hR
      rw [clus_nil, List.append_nil] at hs
      subst hs
      have HF : Hid (CluP w (clus L) (.returned u3) wr) := Lib.hid ⟨u3, rfl, hv, hb⟩
      clear hR hrd hv hd hb hfar HK hpos
      go_wp2
      go_ret
      exact HF.out
end Go.Proofs.YtipigfgnpfhdbaaGreatDoor.K
namespace Go.Proofs.YtipigfgnpfhdbaaGreatDoor.K
open F
set_option linter.unusedVariables false

/-- Every text has its order. -/
theorem ord_ex (l : List Int) : ∃ L, Ord l L := by
  generalize hn : far l = n
  induction n using Nat.strongRecOn generalizing l with
  | _ n ih =>
    by_cases h : Srt l
    · exact ⟨l, ord_self h⟩
    · unfold Srt at h
      simp only [Classical.not_forall] at h
      obtain ⟨i, a, b, ha, hb, hp, hc⟩ := h
      have hi : i + 1 < l.length := (List.getElem?_eq_some_iff.1 hb).1
      have e : l = l.take i ++ a :: b :: l.drop (i + 2) := by
        have h1 : l.drop i = a :: l.drop (i + 1) := by
          rw [List.drop_eq_getElem_cons (by omega)]
          congr 1
          exact (List.getElem?_eq_some_iff.1 ha).2
        have h2 : l.drop (i + 1) = b :: l.drop (i + 2) := by
          rw [List.drop_eq_getElem_cons hi]
          congr 1
          exact (List.getElem?_eq_some_iff.1 hb).2
        rw [← h2, ← h1, List.take_append_drop]
      have hf := far_swap (a := a) (b := b) (by omega) (l.take i) (l.drop (i + 2))
      rw [← e] at hf
      obtain ⟨L, hL⟩ := ih _ (by omega) (l.take i ++ b :: a :: l.drop (i + 2)) rfl
      refine ⟨L, ?_⟩
      rw [e]
      exact hL.of_st (St.swap _ _ (by omega) (by omega) (by omega)).symm
def withE : List Int := [232, 233, 234, 235, 275, 277, 279, 281, 283, 553, 7701, 7865, 7867, 7869, 7871, 7873, 7875, 7877, 7879]
theorem withE_shut : F.tabS.all (fun t => !((101 :: withE).contains t.2.1) || withE.contains t.1) = true := by kernel_rfl
theorem withE_secs : F.secs.all (fun s => !((101 :: withE).contains s)) = true := by kernel_rfl
theorem withE_fit : (101 :: withE).all (fun s => decide (s < 4352) || decide (4546 < s)) = true := by kernel_rfl
theorem ap_e : ∀ (n : Nat) (x : Int), F.mu x ≤ n → (101 : Int) ∈ F.ap x → x ∈ 101 :: withE
  | n, x, hn, h => by
    by_cases hp : F.pts x = []
    · rw [F.ap_free hp] at h
      simp at h
      simp [h]
    · rw [F.ap_split hp] at h
      obtain ⟨p, hpm, h⟩ := List.mem_flatMap.1 h
      have hlt := F.mu_lt hpm
      match n, hn with
      | 0, hn => omega
      | n + 1, hn =>
        have hp' := ap_e n p (by omega) h
        rcases F.pts_ways x with ⟨t, ht, rfl, ⟨h0, h1⟩ | ⟨h0, h1⟩⟩ | ⟨h1, h2, h3⟩ | ⟨h1, _⟩
        · rw [h1] at hpm
          simp at hpm
          subst hpm
          have := List.all_eq_true.1 withE_shut t ht
          rw [List.contains_iff_mem.2 hp'] at this
          exact List.mem_cons_of_mem _ (List.contains_iff_mem.1 (by simpa using this))
        · rw [h1] at hpm
          simp at hpm
          rcases hpm with rfl | rfl
          · have := List.all_eq_true.1 withE_shut t ht
            rw [List.contains_iff_mem.2 hp'] at this
            exact List.mem_cons_of_mem _ (List.contains_iff_mem.1 (by simpa using this))
          · have := List.all_eq_true.1 withE_secs t.2.2 h0
            rw [List.contains_iff_mem.2 hp'] at this
            cases this
        · rw [h1] at hpm
          have h4 := F.parts_mem hpm
          have h5 := List.all_eq_true.1 withE_fit p hp'
          simp at h5
          omega
        · exact absurd h1 hp
theorem withE_none : withE.all (fun x => (G.forthL (G.numsH x) 12).isEmpty) = true := by kernel_rfl
theorem e_code : (G.forthL (G.numsH 101) 12).contains (1, 101) = true := by kernel_rfl
theorem known_e : G.Known 101 := G.known_iff.2 ⟨(1, 101), List.contains_iff_mem.1 e_code⟩
/-- Of those with a code e alone comes to e. -/
theorem e_alone {x : Int} (hk : G.Known x) (h : (101 : Int) ∈ F.ap x) : x = 101 := by
  rcases List.mem_cons.1 (ap_e (F.mu x) x (Nat.le_refl _) h) with e | e
  · exact e
  · obtain ⟨c, hc⟩ := G.known_iff.1 hk
    have := List.all_eq_true.1 withE_none x e
    rw [List.isEmpty_iff] at this
    rw [this] at hc
    cases hc
theorem pts_e : F.pts 101 = [] := F.sec_free (List.mem_append_right _ (by simpa using F.ends_101))
theorem pts_acute : F.pts 769 = [] := F.sec_free (List.mem_append_left _ (by simpa using F.secs_769))
theorem pts_a : F.pts 97 = [] := F.sec_free (List.mem_append_right _ (List.contains_iff_mem.1 (by kernel_rfl)))
theorem ap_one (x : Int) : F.apL [x] = F.ap x := by simp [F.apL]
theorem apL_e : F.apL [101] = [101] := by rw [ap_one, F.ap_free pts_e]
theorem apL_ea : F.apL [101, 769] = [101, 769] := by simp [F.apL, F.ap_free pts_e, F.ap_free pts_acute]
theorem apL_xa : F.apL [233, 97] = [101, 769, 97] := by
  rw [show ([233, 97] : List Int) = [233] ++ [97] from rfl, F.apL_append, F.ap_233, ap_one, F.ap_free pts_a]; rfl
theorem cls_e : F.cls 101 = 0 := by kernel_rfl
theorem cls_a : F.cls 97 = 0 := by kernel_rfl
theorem cls_acute : F.cls 769 = 230 := by kernel_rfl
/-- Where no mark stands behind another one nothing moves. -/
def still : List Int → Bool
  | a :: b :: t => (F.cls b == 0 || decide (F.cls a ≤ F.cls b)) && still (b :: t)
  | _ => true
theorem still_srt : ∀ {l : List Int}, still l = true → F.Srt l
  | [], _ => F.Srt.nil
  | [a], _ => fun i x y hx hy _ => by
    have := (List.getElem?_eq_some_iff.1 hy).1
    simp at this
  | a :: b :: t, h => fun i x y hx hy hp => by
    simp only [still, Bool.and_eq_true, Bool.or_eq_true, beq_iff_eq, decide_eq_true_eq] at h
    cases i with
    | zero =>
      simp at hx hy
      subst hx hy
      omega
    | succ i => exact still_srt h.2 i x y (by simpa using hx) (by simpa using hy) hp
theorem ord_e : F.Ord (F.apL [101]) [101] := by rw [apL_e]; exact F.ord_self (still_srt rfl)
theorem ord_ea : F.Ord (F.apL [101, 769]) [101, 769] := by rw [apL_ea]; exact F.ord_self (still_srt (by kernel_rfl))
theorem ord_xa : F.Ord (F.apL [233, 97]) [101, 769, 97] := by rw [apL_xa]; exact F.ord_self (still_srt (by kernel_rfl))
/-- Another character with a code, taken apart, has no e ahead; but something. -/
theorem no_e {x : Int} {L : List Int} (hk : G.Known x) (hx : x ≠ 101) (h : F.Ord (F.apL [x]) L) : ∃ y t, L = y :: t ∧ y ≠ 101 := by
  have hne : L ≠ [] := fun e => by
    have h1 := h.1.length
    rw [e] at h1
    exact F.apL_nonempty (l := [x]) (by simp) (List.eq_nil_of_length_eq_zero h1.symm)
  cases L with
  | nil => exact absurd rfl hne
  | cons y t =>
    refine ⟨y, t, rfl, fun e => ?_⟩
    subst e
    have : (101 : Int) ∈ F.apL [x] := h.1.mem.1 (by simp)
    rw [ap_one] at this
    exact hx (e_alone hk this)
end Go.Proofs.YtipigfgnpfhdbaaGreatDoor.K
namespace Go.Proofs.YtipigfgnpfhdbaaGreatDoor.K
open Go.RowKit U M G
set_option linter.unusedVariables false

theorem wrap_succM {n : Nat} (h : n ≤ 1000000) : wrap64 ((n : Int) + 1) = ((n + 1 : Nat) : Int) := by unfold wrap64; omega
/-- The function tells p of the numbers of l, and lays blocks at most. -/
def PredR (g : Nat) (cb : Array Value) (p : Int → Bool) (E : Nat) (w : World) (l : List Int) : Prop :=
  ∀ x ∈ l, ∀ w', Below E w w' → Calls Tryz.prog g (#[.int .i32 x] ++ cb) w' (fun e w'' => e = .returned (.bool (p x)) ∧ Bel w' w'')
def IdxR (E : Nat) (w : World) (v : Value) (l : List Int) (p : Int → Bool) (e : Ending) (w' : World) : Prop :=
  U.Own w' E 21 .i32 v l ∧ Below E w w' ∧ ((e = .returned (.int .i64 (-1)) ∧ ∀ x ∈ l, p x = false) ∨ ∃ (i : Nat) (x : Int), e = .returned (.int .i64 i) ∧ l[i]? = some x ∧ p x = true ∧ ∀ y ∈ l.take i, p y = false)
def IdxRelR (E : Nat) (w : World) (v : Value) (l : List Int) (p : Int → Bool) (u : Value) (wr : World) : Prop :=
  ∃ i : Nat, i ≤ l.length ∧ u = .int .i64 i ∧ U.Own wr E 21 .i32 v l ∧ Below E w wr ∧ ∀ y ∈ l.take i, p y = false
set_option maxRecDepth 100000 in
set_option maxHeartbeats 4000000 in
theorem indexR_is (g : Nat) (cb : Array Value) (p : Int → Bool) (E : Nat) (v : Value) (l : List Int) (w : World) (eg : ∀ args w, (callFunc g args).run Tryz.prog w = .ok (.enter g args) w)
    (hlen : l.length ≤ 1000000) (hE : E ≤ w.heap.size) (hown : U.Own w E 21 .i32 v l) (hp : PredR g cb p E w l) :
    Calls Tryz.prog 110 #[v, .func (.func g) #[] cb] w (IdxR E w v l p) := by
  have HP := Lib.hid hp
  have HO := Lib.hid hown
  obtain ⟨A, cap, rfl, hcap, hrd, hA⟩ := hown.rd
  have hlw : wrap64 (l.length : Int) = (l.length : Int) := by unfold wrap64; omega
  clear hp hown hrd hA hcap
  go_enter Tryz.func110, Tryz.ntmps110
  go_wp2
  go_loopw [8] (fun u wr => IdxRelR E w (.slice A l.length cap) l p u wr) (fun u _ => l.length - (intOf u).toNat)
  case atStart => exact ⟨0, by omega, rfl, HO.out, Below.refl _ _, by simp⟩
  case round =>
    obtain ⟨i, hi, rfl, hown, hB, hall⟩ := hrel
    have HO2 := Lib.hid hown
    have HB := Lib.hid hB
    have HAll := Lib.hid hall
    clear hown hB hall
    by_cases hil : i < l.length
    · have p0 : decide ((i : Int) < (l.length : Int)) = true := by simp; omega
      have p1 : wrap64 ((i : Int) + 1) = ((i + 1 : Nat) : Int) := by unfold wrap64; omega
      obtain ⟨x, hx⟩ : ∃ x, l[i]? = some x := ⟨_, List.getElem?_eq_getElem hil⟩
      obtain ⟨A', cap', eA, hcap, hrd, hA⟩ := HO2.out.rd
      cases eA
      obtain ⟨g0, off, rfl, _, _⟩ := hrd.isSome (by omega)
      have c0 := hrd.at hx
      have HX := Lib.hid hx
      have hc := HP.out x (List.mem_of_getElem? hx) wr HB.out
      obtain ⟨b, hb⟩ : ∃ b, p x = b := ⟨_, rfl⟩
      rw [hb] at hc
      have HPx := Lib.hid hb
      clear hrd hA hcap hx hb
      cases b with
      | true =>
        go_wp2_with (go_at_fn g; refine hc.mono ?_; rintro e w1 ⟨rfl, hb1⟩)
        go_ret
        exact ⟨HO2.out.keep hb1, Below.trans HB.out (Below.mono hb1 (Nat.le_trans hE (Below.size HB.out))), .inr ⟨i, x, rfl, HX.out, HPx.out, HAll.out⟩⟩
      | false =>
        go_wp2_with (go_at_fn g; refine hc.mono ?_; rintro e w1 ⟨rfl, hb1⟩)
        exact ⟨⟨i + 1, by omega, by simp, HO2.out.keep hb1, Below.trans HB.out (Below.mono hb1 (Nat.le_trans hE (Below.size HB.out))), take_all HAll.out HX.out HPx.out⟩, by simp [intOf]; omega⟩
    · obtain rfl : i = l.length := by omega
      have p0 : decide ((l.length : Int) < (l.length : Int)) = false := by simp
      go_wp2
      go_ret
      exact ⟨HO2.out, HB.out, .inl ⟨rfl, fun x hx => HAll.out x (by rw [List.take_length]; exact hx)⟩⟩

def DelRelR (E : Nat) (w : World) (v : Value) (l : List Int) (p : Int → Bool) (u5 u6 : Value) (wr : World) : Prop :=
  ∃ (i j : Nat) (m : List Int), j ≤ l.length ∧ i < j ∧ u5 = .int .i64 i ∧ u6 = .int .i64 j ∧ (kept p (l.take j)).length = i ∧ i + m.length = j ∧ U.Own wr E 21 .i32 v (kept p (l.take j) ++ (m ++ l.drop j)) ∧ Below E w wr
def DelPostR (E : Nat) (w : World) (l : List Int) (e : Ending) (w' : World) : Prop := ∃ v, e = .returned v ∧ U.Own w' E 21 .i32 v l ∧ Below E w w'
theorem zero_rune (w : World) : (zeroValue 21).run Tryz.prog w = .ok (.int .i32 0) w := by kernel_rfl
set_option maxRecDepth 100000 in
set_option maxHeartbeats 4000000 in
theorem deleteR_is (g : Nat) (cb : Array Value) (p : Int → Bool) (E : Nat) (v : Value) (l : List Int) (w : World) (eg : ∀ args w, (callFunc g args).run Tryz.prog w = .ok (.enter g args) w)
    (hlen : l.length ≤ 1000000) (hE : E ≤ w.heap.size) (hown : U.Own w E 21 .i32 v l) (hp : PredR g cb p E w l) :
    Calls Tryz.prog 108 #[v, .func (.func g) #[] cb] w (DelPostR E w (kept p l)) := by
  have HP := Lib.hid hp
  have HO := Lib.hid hown
  have HI := Lib.hid (indexR_is g cb p E v l w eg hlen hE hown hp)
  obtain ⟨A, cap, rfl, hcap, hrd, hA⟩ := hown.rd
  have hlw : wrap64 (l.length : Int) = (l.length : Int) := by unfold wrap64; omega
  have HE := Lib.hid hE
  clear hp hown hrd hA hE hcap
  go_enter Tryz.func108, Tryz.ntmps108
  go_wp2_with fail
  refine HI.out.mono ?_
  rintro e w1 ⟨hown, hB, ⟨rfl, hall⟩ | ⟨i, x, rfl, hx, hpx, hall⟩⟩
  · have HO1 := Lib.hid hown
    have HB1 := Lib.hid hB
    have HA := Lib.hid (kept_none hall)
    clear hown hB hall
    go_wp2
    go_ret
    exact ⟨_, rfl, by rw [HA.out]; exact HO1.out, HB1.out⟩
  · have HO1 := Lib.hid hown
    have HB1 := Lib.hid hB
    have HA := Lib.hid hall
    have HX := Lib.hid hx
    have HPx := Lib.hid hpx
    have hil : i < l.length := (List.getElem?_eq_some_iff.1 hx).1
    have p0 : ((i : Int) == -1) = false := by simp
    have p1 := wrap_succM (Nat.le_trans (Nat.le_of_lt hil) hlen)
    obtain ⟨A0, cap0, eA, -, hrd, -⟩ := hown.rd
    cases eA
    obtain ⟨g0, off, rfl, -, -⟩ := hrd.isSome (by omega)
    have hoff : off = 0 := by
      rcases hown.2 with ⟨h0, _⟩ | ⟨g', cap', cur, hv, _⟩
      · cases h0
      · simp only [Value.slice.injEq, Option.some.injEq, Addr.mk.injEq] at hv
        exact hv.1.2.1
    subst hoff
    clear hown hB hall hx hpx hrd
    go_wp2
    go_loopw [5, 6] (fun u5 u6 wr => DelRelR E w (.slice (some ⟨g0, 0, none⟩) l.length cap) l p u5 u6 wr) (fun _ u6 _ => l.length - (intOf u6).toNat)
    case atStart =>
      have hk1 : kept p (l.take (i + 1)) = l.take i := by rw [kept_succ HX.out, HPx.out, kept_none HA.out, if_pos rfl, List.append_nil]
      refine ⟨i, i + 1, [x], by omega, by omega, rfl, by simp, ?_, by simp, ?_, HB1.out⟩
      · rw [hk1, List.length_take]; omega
      · rw [hk1, start_row HX.out]; exact HO1.out
    case round =>
      obtain ⟨i2, j, m, hj, hij, rfl, rfl, hk, hm, hown, hB⟩ := hrel
      have HO2 := Lib.hid hown
      have HB2 := Lib.hid hB
      have HK := Lib.hid hk
      have HM := Lib.hid hm
      obtain ⟨hlen2, hcap2, hEg, hcell, hset⟩ := own_at hown (by omega)
      clear hk hown hB
      by_cases hjl : j < l.length
      · have q0 := lt_true hjl
        have q1 := wrap_succM (Nat.le_trans hj hlen)
        have q2 := wrap_succM (Nat.le_trans (Nat.le_of_lt hij) (Nat.le_trans hj hlen))
        obtain ⟨y, hy⟩ : ∃ y, l[j]? = some y := ⟨_, List.getElem?_eq_getElem hjl⟩
        have hcy := (hcell j y (row_at_j _ _ _ (by rw [HK.out]; exact hm) (drop_zero hy))).1
        have hc := HP.out y (List.mem_of_getElem? hy) wr HB2.out
        obtain ⟨b, hb⟩ : ∃ b, p y = b := ⟨_, rfl⟩
        rw [hb] at hc
        have HPy := Lib.hid hb
        have HY := Lib.hid hy
        have HJ := Lib.hid (And.intro hij hm)
        have HEg := Lib.hid hEg
        have HJL := Lib.hid hjl
        clear hb hy hcell hset hm hlen2 hcap2 hij hj hEg hjl
        go_wp2_with fail
        refine hc.mono ?_
        rintro e w2 ⟨rfl, hb2⟩
        have HB3 : Hid (Below E w w2) := Lib.hid (Below.trans HB2.out (Below.mono hb2 (Nat.le_trans HE.out (Below.size HB2.out))))
        have HO3 := Lib.hid (HO2.out.keep hb2)
        obtain ⟨-, -, -, hcell, hset⟩ := own_at HO3.out (Nat.lt_of_le_of_lt (Nat.zero_le _) HJL.out)
        have HSet := Lib.hid hset
        obtain ⟨z, hz⟩ := row_some _ m (l.drop j) HK.out HJ.out.2 HJ.out.1
        obtain ⟨c1, f1⟩ := hcell i2 z hz
        have hend : Hid (kept p (l.take (j + 1)) = kept p (l.take j) ++ (if p y then [] else [y])) := Lib.hid (kept_succ HY.out)
        have hdr : Hid (l.drop j = y :: l.drop (j + 1)) := Lib.hid (drop_cons HY.out)
        clear hcell hset hz hc
        cases b with
        | true =>
          go_wp2
          refine ⟨⟨i2, j + 1, m ++ [y], HJL.out, Nat.lt_succ_of_lt HJ.out.1, rfl, by simp, ?_, ?_, ?_, HB3.out⟩, by simp [intOf]; exact meas HJL.out⟩
          · rw [hend.out, HPy.out, if_pos rfl, List.append_nil]; exact HK.out
          · rw [List.length_append, List.length_singleton, ← Nat.add_assoc, HJ.out.2]
          · have h := HO3.out
            rw [hdr.out] at h
            rw [hend.out, HPy.out, if_pos rfl, List.append_nil, List.append_assoc]
            exact h
        | false =>
          have hst := HSet.out i2 y (Nat.lt_trans HJ.out.1 HJL.out)
          rw [row_set_i _ _ _ HK.out (tail_pos HJ.out.2 HJ.out.1), hdr.out] at hst
          have HSt := Lib.hid hst
          clear hst
          have hi2l : i2 < l.length := Nat.lt_trans HJ.out.1 HJL.out
          go_wp2
          refine ⟨⟨i2 + 1, j + 1, m.tail ++ [y], HJL.out, Nat.succ_lt_succ HJ.out.1, by simp, by simp, ?_, ?_, ?_, Below.setCell HB3.out HEg.out _⟩, by simp [intOf]; exact meas HJL.out⟩
          · rw [hend.out, HPy.out, if_neg (by simp), List.length_append, HK.out]; rfl
          · rw [List.length_append, List.length_singleton]; exact tail_len HJ.out.2 HJ.out.1
          · rw [hend.out, HPy.out, if_neg (by simp), List.append_assoc m.tail]
            exact HSt.out
      · obtain rfl : j = l.length := by omega
        have q0 := lt_same l.length
        have hcl : ∀ ty, (Builtin.clear_ #[22] ty #[.slice (some ⟨g0, i2, none⟩) (l.length - i2) (cap - i2)]).run Tryz.prog wr = .ok (.tuple #[]) (wr.setCells g0 i2 (List.replicate (l.length - i2) (.int .i32 0))) := fun ty =>
          Lib.run_clear_slice wr 22 21 ty (.int .i32 0) Tryz.underlying22 zero_rune rfl rfl g0 i2 _ _ (Nat.sub_pos_of_lt hij) (fun t ht => by obtain ⟨z, hz⟩ := row_any _ hlen2 (Nat.add_lt_of_lt_sub' ht); rw [(hcell _ z hz).1]; rfl) (fun t ht => by obtain ⟨z, hz⟩ := row_any _ hlen2 (Nat.add_lt_of_lt_sub' ht); exact (hcell _ z hz).2)
        have hz := own_take (own_zero (l.length - i2) i2 HO2.out (by rw [Nat.add_sub_cancel' (Nat.le_of_lt hij)]; exact Nat.le_refl _)) (i := i2) (by rw [List.length_append, List.length_take, hlen2]; exact take_le hij)
        have HZ := Lib.hid hz
        have HIJ := Lib.hid hij
        have HEg := Lib.hid hEg
        have s1 : i2 ≤ l.length := Nat.le_of_lt hij
        have s2 : l.length ≤ cap := hcap2
        clear hz hij hEg hj hlen2 hcap2 hcell hset
        have s3 : ¬ cap = i2 := cap_ne HIJ.out s2
        have HK2 : Hid (kept p l = kept p (l.take l.length)) := Lib.hid (by rw [List.take_length])
        go_wp2_with fail
        go_ret
        refine ⟨_, rfl, ?_, below_cells HEg.out _ _ HB2.out⟩
        have h := HZ.out
        rw [take_row _ _ _ _ HK.out] at h
        rw [HK2.out]
        exact h
end Go.Proofs.YtipigfgnpfhdbaaGreatDoor.K
namespace Go.Proofs.YtipigfgnpfhdbaaGreatDoor.K
open Go.RowKit U F
set_option linter.unusedVariables false

/-- The list of all orders. -/
noncomputable def ordersOf (l : List Int) : List (List Int) := Classical.epsilon (IsOrders cls l)
theorem ordersOf_is {l : List Int} {L : List (List Int)} (h : IsOrders cls l L) : ordersOf l = L := (Classical.epsilon_spec (p := IsOrders cls l) ⟨L, h⟩).unique h
/-- Those that begin with m. -/
noncomputable def begun (l : List Int) (m : Int) : List (List Int) := (ordersOf (l.erase m)).map (m :: ·)
def OrdersP (w : World) (l : List Int) (e : Ending) (w' : World) : Prop := ∃ v L, e = .returned v ∧ IsOrders cls l L ∧ LOwn w' w.heap.size v L ∧ L.length ≤ 7 ^ l.length ∧ Bel w w'
theorem begun_len {l G : List Int} {b : Nat} (h : ∀ m ∈ G, (ordersOf (l.erase m)).length ≤ b) : (G.flatMap (begun l)).length ≤ G.length * b := orders_len (Nat.le_refl _) h
theorem pow7 {n : Nat} (h : n ≤ 5) : 7 ^ n ≤ 16807 := Nat.le_trans (Nat.pow_le_pow_right (by omega) h) (by decide)
theorem erase_at {l : List Int} {i : Nat} {x : Int} (h : l[i]? = some x) (hn : ∀ y ∈ l.take i, y ≠ x) : l.erase x = l.eraseIdx i := by
  have hi : i < l.length := (List.getElem?_eq_some_iff.1 h).1
  have hd : l.drop i = x :: l.drop (i + 1) := by
    rw [List.drop_eq_getElem_cons hi]
    congr 1
    exact (List.getElem?_eq_some_iff.1 h).2
  rw [List.eraseIdx_eq_take_drop_succ]
  conv => lhs; rw [← List.take_append_drop i l, hd]
  rw [List.erase_append_right _ (fun hx => hn x hx rfl), List.erase_cons_head]
end Go.Proofs.YtipigfgnpfhdbaaGreatDoor.K
namespace Go.Proofs.YtipigfgnpfhdbaaGreatDoor.K
open Go.RowKit U F
set_option linter.unusedVariables false

/-- Without the first one of each. -/
def wo (l ts : List Int) : List Int := ts.foldl (fun a t => a.erase t) l
theorem wo_one (l : List Int) (m : Int) : wo l [m] = l.erase m := rfl
theorem wo_snoc (l ts : List Int) (m : Int) : wo l (ts ++ [m]) = (wo l ts).erase m := by simp [wo]
theorem wo_len (l : List Int) : ∀ ts : List Int, (wo l ts).length ≤ l.length := by
  intro ts
  induction ts generalizing l with
  | nil => simp [wo]
  | cons t ts ih => exact Nat.le_trans (ih (l.erase t)) List.length_erase_le
def WoRel (w : World) (l ts : List Int) (v i : Value) (w' : World) : Prop :=
  ∃ k : Nat, i = .int .i64 k ∧ k ≤ ts.length ∧ Hid (U.Own w' w.heap.size 21 .i32 v (wo l (ts.take k)) ∧ Bel w w')

set_option maxRecDepth 100000 in
set_option maxHeartbeats 4000000 in
theorem without_is (A B : Option Addr) (n c m d C D : Nat) (l ts : List Int) (w : World) (hr : U.Rd w C .i32 A l) (hl : l.length = n) (hn : n ≤ 10000) (hnil : A = none → l = [])
    (ht : U.Rd w D .i32 B ts) (hm : ts.length = m) (hm2 : m ≤ 10000) :
    Calls Tryz.prog 48 #[.slice A n c, .slice B m d] w (CloneP w (wo l ts)) := by
  have HC := Lib.hid (clone_is A n c C l w hr hl (by omega) hnil)
  have HT := Lib.hid ht
  have HM := Lib.hid hm
  have HN := Lib.hid (And.intro hl hn)
  clear hr hl ht hm hnil hn
  go_enter Tryz.func48, Tryz.ntmps48
  go_wp2_with fail
  with_reducible refine HC.out.mono ?_
  rintro e w1 ⟨v, rfl, hown, hb⟩
  have H0 : Hid (U.Own w1 w.heap.size 21 .i32 v (wo l (ts.take 0)) ∧ Bel w w1) := Lib.hid ⟨by simpa [wo] using hown, hb⟩
  clear hown hb HC
  go_wp2
  go_loopw [5, 13] (fun v i wr => WoRel w l ts v i wr) (fun v i _ => m - (intOf i).toNat)
  case atStart => exact ⟨0, rfl, Nat.zero_le _, H0⟩
  case round =>
    clear H0
    obtain ⟨k, rfl, hk, HK⟩ := hrel
    rw [HM.out] at hk
    by_cases hlt : k < m
    · obtain ⟨x, hx⟩ : ∃ x, ts[k]? = some x := ⟨ts[k]'(by rw [HM.out]; exact hlt), by simp⟩
      obtain ⟨g, off, rfl, _, hc⟩ := (HT.out.bel HK.out.2) k x hx
      have q0 : (0 : Int) ≤ (k : Int) := by omega
      have q1 : (k : Int) < (m : Int) := by omega
      have hke : wo l (ts.take (k + 1)) = (wo l (ts.take k)).erase x := by rw [List.take_add_one, hx, Option.toList_some, wo_snoc]
      obtain ⟨hown, hbw⟩ := HK.out
      have hwl : (wo l (ts.take k)).length ≤ 10000 := by
        have h1 := wo_len l (ts.take k)
        have h2 := HN.out.1
        have h3 := HN.out.2
        omega
      generalize wo l (ts.take k) = L at hown hke hwl HK
      obtain ⟨A', cap, rfl, hcap, hrd, hA⟩ := hown.rd
      have HO := Lib.hid hown
      have HB := Lib.hid hbw
      have HKE := Lib.hid hke
      have HWL := Lib.hid hwl
      have HF := Lib.hid (find_is x A' L.length cap _ L wr hwl rfl hrd)
      clear hx hown hbw hrd hA HK hke hwl hcap
      go_wp2_with fail
      with_reducible refine HF.out.mono ?_
      rintro e w2 ⟨hb2, ⟨rfl, h2⟩ | ⟨i, rfl, h2, h3⟩⟩
      · have HB2 := Lib.hid hb2
        have HL : Hid (wo l (ts.take (k + 1)) = L) := Lib.hid (by rw [HKE.out]; exact List.erase_of_not_mem fun h => h2 x h rfl)
        clear hb2 h2 HF
        go_wp2
        go_roundw
        case rel => exact ⟨k + 1, by go_num, by rw [HM.out]; omega, Lib.hid ⟨by rw [HL.out]; exact HO.out.keep HB2.out, HB.out.trans HB2.out⟩⟩
        case measure => simp [intOf]; omega
      · have HB2 := Lib.hid hb2
        have hil : i < L.length := (List.getElem?_eq_some_iff.1 h2).1
        have p0 : (0 : Int) ≤ (i : Int) := by omega
        have p1 : (i : Int) < 10001 := by have := HWL.out; omega
        have HD := Lib.hid (delete_is w.heap.size i ((i : Int) + 1) x (.slice A' L.length cap) L w2 (HO.out.keep hb2) h2 rfl HWL.out)
        have HL : Hid (wo l (ts.take (k + 1)) = L.eraseIdx i) := Lib.hid (by rw [HKE.out]; exact erase_at h2 h3)
        clear hb2 h2 h3 HF hil
        go_wp2_with fail
        with_reducible refine HD.out.mono ?_
        rintro e w3 ⟨v3, rfl, ho3, hb3⟩
        have H3 := Lib.hid (And.intro ho3 hb3)
        clear ho3 hb3 HD
        go_wp2
        go_roundw
        case rel =>
          refine ⟨k + 1, by go_num, by rw [HM.out]; omega, Lib.hid ⟨by rw [HL.out]; exact H3.out.1, ?_⟩⟩
          exact Below.trans (HB.out.trans HB2.out) H3.out.2
        case measure => simp [intOf]; omega
    · obtain rfl : k = m := by omega
      have q1 : ¬ (k : Int) < (k : Int) := by omega
      obtain ⟨hown, hbw⟩ := HK.out
      rw [List.take_of_length_le (by rw [HM.out]; omega)] at hown
      have HO := Lib.hid hown
      have HB := Lib.hid hbw
      clear hown hbw HK
      go_wp2
      go_ret
      exact ⟨_, rfl, HO.out, HB.out⟩
end Go.Proofs.YtipigfgnpfhdbaaGreatDoor.K
namespace Go.Proofs.YtipigfgnpfhdbaaGreatDoor.G
open U
set_option linter.unusedVariables false

/-- One code of each character, the characters rising. -/
def someCodes : List (Int × Int) := [(1, 33), (1, 34), (1, 35), (1, 36), (1, 37), (1, 38), (1, 39), (1, 40), (1, 41), (1, 42), (1, 43), (1, 44), (1, 45), (1, 46), (1, 47), (1, 48), (1, 49), (1, 50), (1, 51), (1, 52), (1, 53), (1, 54),
  (1, 55), (1, 56), (1, 57), (1, 58), (1, 59), (1, 60), (1, 61), (1, 62), (1, 63), (1, 64), (1, 65), (1, 66), (1, 67), (1, 68), (1, 69), (1, 70), (1, 71), (1, 72), (1, 73), (1, 74), (1, 75), (1, 76),
  (1, 77), (1, 78), (1, 79), (1, 80), (1, 81), (1, 82), (1, 83), (1, 84), (1, 85), (1, 86), (1, 87), (1, 88), (1, 89), (1, 90), (1, 91), (1, 92), (1, 93), (1, 94), (1, 95), (1, 96), (1, 97), (1, 98),
  (1, 99), (1, 100), (1, 101), (1, 102), (1, 103), (1, 104), (1, 105), (1, 106), (1, 107), (1, 108), (1, 109), (1, 110), (1, 111), (1, 112), (1, 113), (1, 114), (1, 115), (1, 116), (1, 117), (1, 118),
  (1, 119), (1, 120), (1, 121), (1, 122), (1, 123), (1, 124), (1, 125), (1, 126), (2, 70), (2, 57), (2, 67), (3, 48), (2, 42), (2, 64), (2, 43), (11, 50), (11, 51), (2, 40), (11, 49), (3, 49), (2, 69),
  (2, 37), (2, 34), (2, 36), (2, 71), (2, 53), (2, 58), (2, 50), (2, 52), (2, 35), (2, 51), (2, 56), (2, 33), (2, 49), (2, 38), (2, 54), (2, 44), (2, 60), (2, 45), (2, 61), (2, 39), (2, 55), (2, 48),
  (2, 46), (2, 97), (2, 98), (2, 99), (2, 100), (2, 101), (2, 102), (2, 103), (2, 104), (2, 96), (2, 106), (2, 110), (2, 105), (2, 111), (2, 126), (3, 38), (2, 109), (2, 120), (2, 114), (2, 115), (2,
  116), (2, 119), (2, 112), (2, 113), (2, 121), (2, 118), (2, 117), (3, 36), (3, 39), (3, 52), (3, 53), (3, 63), (3, 59), (3, 65), (3, 66), (3, 68), (3, 69), (3, 70), (3, 73), (3, 74), (3, 75), (3, 76),
  (3, 77), (3, 78), (3, 79), (3, 80), (3, 81), (3, 82), (3, 83), (3, 85), (3, 86), (3, 88), (3, 89), (3, 90), (3, 91), (3, 92), (3, 93), (3, 97), (3, 98), (3, 100), (3, 101), (3, 102), (3, 105), (3,
  106), (3, 107), (3, 108), (3, 109), (3, 110), (3, 111), (3, 112), (3, 113), (3, 114), (3, 115), (3, 117), (3, 119), (3, 118), (3, 120), (3, 121), (3, 122), (3, 123), (3, 124), (3, 125), (3, 99), (3,
  71), (3, 103), (3, 72), (3, 104), (3, 84), (3, 116), (3, 94), (3, 126), (8, 100), (8, 97), (8, 98), (8, 99), (8, 101), (8, 102), (8, 103), (8, 104), (8, 105), (8, 106), (8, 107), (8, 108), (8, 109),
  (8, 110), (7, 97), (7, 98), (7, 119), (7, 103), (7, 100), (7, 101), (7, 118), (7, 122), (7, 105), (7, 106), (7, 107), (7, 108), (7, 109), (7, 110), (7, 111), (7, 112), (7, 114), (7, 115), (7, 116),
  (7, 117), (7, 102), (7, 104), (7, 99), (7, 126), (7, 123), (7, 125), (8, 111), (7, 121), (7, 120), (7, 124), (7, 96), (7, 113), (7, 65), (7, 66), (7, 87), (7, 71), (7, 68), (7, 69), (7, 86), (7, 90),
  (7, 73), (7, 74), (7, 75), (7, 76), (7, 77), (7, 78), (7, 79), (7, 80), (7, 82), (7, 83), (7, 84), (7, 85), (7, 70), (7, 72), (7, 67), (7, 94), (7, 91), (7, 93), (7, 95), (7, 89), (7, 88), (7, 92),
  (7, 64), (7, 81), (8, 68), (8, 65), (8, 66), (8, 67), (8, 69), (8, 70), (8, 71), (8, 72), (8, 73), (8, 74), (8, 75), (8, 76), (8, 77), (8, 78), (8, 112), (8, 80), (8, 115), (8, 83), (8, 113), (8, 81),
  (8, 114), (8, 82), (8, 96), (8, 64), (4, 71), (4, 74), (4, 72), (4, 73), (4, 68), (4, 67), (4, 66), (4, 64), (4, 65), (4, 69), (4, 70), (4, 75), (4, 45), (4, 76), (4, 77), (4, 96), (4, 97), (4, 98),
  (4, 99), (4, 100), (4, 101), (4, 102), (4, 103), (4, 104), (4, 105), (4, 106), (4, 107), (4, 108), (4, 109), (4, 110), (4, 111), (4, 112), (4, 113), (4, 114), (4, 115), (4, 116), (4, 117), (4, 118),
  (4, 119), (4, 120), (4, 121), (4, 122), (4, 123), (4, 124), (4, 125), (4, 39), (4, 34), (5, 44), (5, 59), (5, 63), (5, 65), (5, 66), (5, 67), (5, 68), (5, 69), (5, 70), (5, 71), (5, 72), (5, 73), (5,
  74), (5, 75), (5, 76), (5, 77), (5, 78), (5, 79), (5, 80), (5, 81), (5, 82), (5, 83), (5, 84), (5, 85), (5, 86), (5, 87), (5, 88), (5, 89), (5, 90), (5, 96), (5, 97), (5, 98), (5, 99), (5, 100), (5,
  101), (5, 102), (5, 103), (5, 104), (5, 105), (5, 106), (5, 107), (5, 108), (5, 109), (5, 110), (5, 111), (5, 112), (5, 113), (5, 114), (5, 48), (5, 49), (5, 50), (5, 51), (5, 52), (5, 53), (5, 54),
  (5, 55), (5, 56), (5, 57), (5, 37), (5, 120), (5, 42), (5, 116), (5, 115), (6, 34), (6, 35), (6, 36), (6, 37), (6, 38), (6, 39), (6, 40), (6, 41), (6, 42), (6, 43), (6, 44), (6, 45), (6, 46), (6, 47),
  (6, 48), (6, 49), (6, 51), (6, 52), (6, 53), (6, 54), (6, 55), (6, 56), (6, 57), (6, 58), (6, 59), (6, 60), (6, 61), (6, 62), (6, 63), (6, 64), (6, 65), (6, 66), (6, 67), (6, 68), (6, 69), (6, 70),
  (6, 71), (6, 72), (6, 74), (6, 75), (6, 77), (6, 78), (6, 80), (6, 81), (6, 82), (6, 83), (6, 84), (6, 85), (6, 86), (6, 87), (6, 88), (6, 89), (6, 90), (6, 91), (6, 92), (6, 93), (6, 94), (6, 95),
  (6, 96), (6, 97), (6, 98), (6, 99), (6, 100), (6, 101), (6, 102), (6, 103), (6, 108), (6, 104), (6, 105), (6, 106), (6, 107), (6, 109), (6, 50), (6, 73), (6, 76), (6, 79), (6, 33), (3, 50), (3, 51),
  (11, 48), (11, 52), (11, 53), (11, 54), (11, 55), (11, 56), (11, 57), (11, 43), (11, 45), (11, 40), (11, 41), (10, 48), (10, 49), (10, 50), (10, 51), (10, 52), (10, 53), (10, 54), (10, 55), (10, 56),
  (10, 57), (10, 43), (10, 45), (10, 40), (10, 41), (2, 72), (2, 65), (2, 66), (2, 41), (2, 68), (9, 2171681), (9, 2171688), (9, 2171689), (9, 2171690), (9, 2171691), (9, 6890529), (9, 6890530), (9,
  6890531), (9, 6890532), (9, 6890533), (9, 6890534), (9, 6890535), (9, 6890536), (9, 6890537), (9, 6890538), (9, 6890539), (9, 6890540), (9, 6890541), (9, 6890542), (9, 6890543), (9, 6890544), (9,
  6890545), (9, 6890546), (9, 6890547), (9, 6890548), (9, 6890549), (9, 6890550), (9, 6890551), (9, 6890552), (9, 6890553), (9, 6890554), (9, 6890555), (9, 6890556), (9, 6890557), (9, 6890558), (9,
  6890559), (9, 6890560), (9, 6890561), (9, 6890562), (9, 6890563), (9, 6890564), (9, 6890565), (9, 6890566), (9, 6890567), (9, 6890568), (9, 6890569), (9, 6890570), (9, 6890571), (9, 6890572), (9,
  6890573), (9, 6890574), (9, 6890575), (9, 6890576), (9, 6890577), (9, 6890578), (9, 6890579), (9, 6890580), (9, 6890581), (9, 6890582), (9, 6890583), (9, 6890584), (9, 6890585), (9, 6890586), (9,
  6890587), (9, 6890588), (9, 6890589), (9, 6890590), (9, 6890591), (9, 6890592), (9, 6890593), (9, 6890594), (9, 6890595), (9, 6890596), (9, 6890597), (9, 6890598), (9, 6890599), (9, 6890600), (9,
  6890601), (9, 6890602), (9, 6890603), (9, 6890604), (9, 6890605), (9, 6890606), (9, 6890607), (9, 6890608), (9, 6890609), (9, 6890610), (9, 6890611), (9, 6890785), (9, 6890786), (9, 6890787), (9,
  6890788), (9, 6890789), (9, 6890790), (9, 6890791), (9, 6890792), (9, 6890793), (9, 6890794), (9, 6890795), (9, 6890796), (9, 6890797), (9, 6890798), (9, 6890799), (9, 6890800), (9, 6890801), (9,
  6890802), (9, 6890803), (9, 6890804), (9, 6890805), (9, 6890806), (9, 6890807), (9, 6890808), (9, 6890809), (9, 6890810), (9, 6890811), (9, 6890812), (9, 6890813), (9, 6890814), (9, 6890815), (9,
  6890816), (9, 6890817), (9, 6890818), (9, 6890819), (9, 6890820), (9, 6890821), (9, 6890822), (9, 6890823), (9, 6890824), (9, 6890825), (9, 6890826), (9, 6890827), (9, 6890828), (9, 6890829), (9,
  6890830), (9, 6890831), (9, 6890832), (9, 6890833), (9, 6890834), (9, 6890835), (9, 6890836), (9, 6890837), (9, 6890838), (9, 6890839), (9, 6890840), (9, 6890841), (9, 6890842), (9, 6890843), (9,
  6890844), (9, 6890845), (9, 6890846), (9, 6890847), (9, 6890848), (9, 6890849), (9, 6890850), (9, 6890851), (9, 6890852), (9, 6890853), (9, 6890854), (9, 6890855), (9, 6890856), (9, 6890857), (9,
  6890858), (9, 6890859), (9, 6890860), (9, 6890861), (9, 6890862), (9, 6890863), (9, 6890864), (9, 6890865), (9, 6890866), (9, 6890867), (9, 6890868), (9, 6890869), (9, 6890870), (9, 6891052), (9,
  2175009), (9, 2175010), (9, 2175011), (9, 2175012), (9, 2175013), (9, 2175015), (9, 2175014), (9, 2175016), (9, 2175017), (9, 2175018), (9, 2175019), (9, 2175020), (9, 2175021), (9, 2175022), (9,
  2175023), (9, 2175024), (9, 2175025), (9, 2175026), (9, 2175027), (9, 2175028), (9, 2175029), (9, 2175030), (9, 2175031), (9, 2175032), (9, 2175033), (9, 2175034), (9, 2175035), (9, 2175036), (9,
  2175037), (9, 2175038), (9, 2175039), (9, 2175040), (9, 2175041), (9, 2175042), (9, 2175043), (9, 2175044), (9, 2175045), (9, 2175046), (9, 2175047), (9, 2175048), (9, 2175049), (9, 2175050), (9,
  2175051), (9, 2175052), (9, 2175053), (9, 2175054), (9, 2175055), (9, 2175056), (9, 2175057), (9, 2175058), (9, 2175059), (9, 2175060), (9, 2175061), (9, 2175062), (9, 2175063), (9, 2175064), (9,
  2175065), (9, 2175066), (9, 2175067), (9, 2175068), (9, 2175069), (9, 2175070), (9, 2175071), (9, 2175072), (9, 2175073), (9, 2175074), (9, 2175075), (9, 2175076), (9, 2175077), (9, 2175078), (9,
  2175079), (9, 2175080), (9, 2175082), (9, 2175081), (9, 2175083), (9, 2175084), (9, 2175085), (9, 2175086), (9, 2175087), (9, 2175088), (9, 2175089), (9, 2175090), (9, 2175091), (9, 2175092), (9,
  2175093), (9, 2175094), (9, 2175095), (9, 2175096), (9, 2175097), (9, 2175098), (9, 2175099), (9, 2175100), (9, 2175101), (9, 2175102), (9, 2175265), (9, 2175266), (9, 2175267), (9, 2175268), (9,
  2175269), (9, 2175270), (9, 2175271), (9, 2175272), (9, 2175273), (9, 2175274), (9, 2175275), (9, 2175276), (9, 2175277), (9, 2175278), (9, 2175279), (9, 2175280), (9, 2175281), (9, 2175282), (9,
  2175283), (9, 2175284), (9, 2175285), (9, 2175286), (9, 2175287), (9, 2175288), (9, 2175289), (9, 2175290), (9, 2175292), (9, 2175291), (9, 2175293), (9, 2175294), (9, 2175295), (9, 2175296), (9,
  2175297), (9, 2175298), (9, 2175299), (9, 2175300), (9, 2175301), (9, 2175302), (9, 2175303), (9, 2175304), (9, 2175305), (9, 2175306), (9, 2175307), (9, 2175308), (9, 2175309), (9, 2175310), (9,
  2175311), (9, 2175312), (9, 2175313), (9, 2175314), (9, 2175315), (9, 2175316), (9, 2175317), (9, 2175318), (9, 2175320), (9, 2175319), (9, 2175321), (9, 2175322), (9, 2175323), (9, 2175324), (9,
  2175325), (9, 2175326), (9, 2175327), (9, 2175328), (9, 2175329), (9, 2175330), (9, 2175331), (9, 2175332), (9, 2175333), (9, 2175334), (9, 2175335), (9, 2175336), (9, 2175337), (9, 2175338), (9,
  2175339), (9, 2175340), (9, 2175341), (9, 2175342), (9, 2175343), (9, 2175344), (9, 2175345), (4, 78), (2, 107), (2, 108), (2, 122), (2, 123)]
def okW (c : Cd) : Bool := decide (1 ≤ c.1) && decide (c.1 ≤ 12) && (cr c.1 c.2).2 && (if c.1 = 9 then rowsL.any (fun z => decide (z + 33 ≤ c.2) && decide (c.2 ≤ z + 126)) else decide (33 ≤ c.2) && decide (c.2 ≤ 126))
theorem okW_all : someCodes.all okW = true := by kernel_rfl
theorem some_rise : rise (someCodes.map rn) = true := by kernel_rfl
theorem some_long : 700 < someCodes.length := by decide +kernel
theorem okW_mem {c : Cd} (h : okW c = true) : c ∈ forthL everyL 12 := by
  unfold okW at h
  simp only [Bool.and_eq_true, decide_eq_true_eq] at h
  obtain ⟨⟨⟨h1, h2⟩, h3⟩, h4⟩ := h
  refine mem_forth.2 ⟨h1, by omega, ?_, h3⟩
  by_cases h9 : c.1 = 9
  · rw [if_pos h9] at h4
    rw [h9]
    simp only [List.any_eq_true, Bool.and_eq_true, decide_eq_true_eq] at h4
    exact mem_every9.2 h4
  · rw [if_neg h9] at h4
    simp only [Bool.and_eq_true, decide_eq_true_eq] at h4
    rw [every_other h9]
    exact mem_row.2 (by omega)
theorem nodup_len {α : Type} {l m : List α} (h : l.Nodup) (hs : ∀ x ∈ l, x ∈ m) : l.length ≤ m.length := List.Nodup.length_le_of_subset h hs
theorem known_long {l : List Int} (hp : l.Pairwise (· < ·)) (hm : ∀ r, r ∈ l ↔ Known r) : 700 < l.length := by
  have h1 : (someCodes.map rn).Nodup := nodup_of_lt (rise_pw some_rise)
  have h2 := nodup_len h1 (m := l) (fun r hr => by
    obtain ⟨c, hc, rfl⟩ := List.mem_map.1 hr
    exact (hm _).2 ⟨c, okW_mem (List.all_eq_true.1 okW_all c hc), rfl⟩)
  rw [List.length_map] at h2
  have := some_long
  omega
theorem known_short {l : List Int} (hp : l.Pairwise (· < ·)) (hm : ∀ r, r ∈ l ↔ Known r) : l.length ≤ 200000 := by
  have h2 := nodup_len (nodup_of_lt hp) (m := (forthL everyL 12).map rn) (fun r hr => by
    obtain ⟨c, hc, rfl⟩ := (hm r).1 hr
    exact List.mem_map.2 ⟨c, hc, rfl⟩)
  rw [List.length_map] at h2
  have h := forth_len (nums := everyL) (j := 12) (by omega) (fun s h1 h2 => everyL_len s)
  omega
end Go.Proofs.YtipigfgnpfhdbaaGreatDoor.G
namespace Go.Proofs.YtipigfgnpfhdbaaGreatDoor.K
open Go.RowKit U F
set_option linter.unusedVariables false

theorem OwnIs.after {w w1 w' : World} {L : List Int} {n : Nat} {e : Ending} (h : F.OwnIs w1 L n e w') (hb : Bel w w1) : F.OwnIs w L n e w' := by
  obtain ⟨A, cap, h1, h2, h3, h4, h5, h6⟩ := h
  exact ⟨A, cap, h1, h2, h3, h4, Lib.hid (h5.out.less (Below.size hb)), hb.trans h6⟩
theorem infoW : (Tryz.prog.info? 21).map (fun i => (i.zero, i.size, i.bytes)) = some (some (.int .i32 0), 1, 4) := by kernel_rfl
set_option maxRecDepth 100000 in
set_option maxHeartbeats 4000000 in
theorem apart_is (x : Int) (A : Option Addr) (n c C : Nat) (l L : List Int) (m : Nat) (w : World) (hr : U.Rd w C .i32 A l) (hl : l.length = n) (hnil : A = none → c = 0) (hn : n ≤ 1000) (hS : F.Sp w) (hO : F.Ord (F.apL (x :: l)) L) (hm : L.length = m) :
    Calls Tryz.prog 109 #[.int .i32 x, .slice A n c] w (F.OwnIs w L m) := by
  obtain ⟨i0, hi0, hz0, hz1, hz2⟩ := info_parts infoW
  have HA1 := Lib.hid (U.Own.lit w 21 .i32 (cs := #[.int .i32 x]) (l := [x]) (n := 1) rfl rfl (by omega))
  have HA2 := Lib.hid (hr.bel ((Bel.refl w).alloc (.cells #[.int .i32 x] 21)))
  have HL := Lib.hid hl
  have HS := Lib.hid hS
  have HO := Lib.hid (And.intro hO hm)
  have HN := Lib.hid hnil
  clear hr hl hS hO hm hnil
  go_enter Tryz.func109, Tryz.ntmps109
  go_wp2_with (first | (at_builtin; refine F.wpl_append (by rfl) (.tmp 6) (.tmp 7) 22 rfl Tryz.underlying22 hi0 hz0 hz1 hz2 rfl (by omega) HA1.out rfl HA2.out rfl HL.out HN.out (by simp; omega) (by simp) ?_; intro v2 w2 hown2 hb2) | fail)
  obtain ⟨A2, cap2, rfl, hc2, hrd2, hnil2⟩ := hown2.rdn (show ([x] ++ l).length = n + 1 by simp; exact HL.out)
  have hbw : Bel w w2 := Below.trans ((Bel.refl w).alloc _) hb2
  have HC := Lib.hid (F.nfd_as A2 (n + 1) cap2 _ (x :: l) L m w2 hrd2 (by simp; exact HL.out) (by omega) (HS.out.by hbw) HO.out.1 HO.out.2)
  have HB := Lib.hid hbw
  clear hown2 hb2 hc2 hrd2 hnil2 hbw HA1 HA2
  try go_wp2_with fail
  with_reducible refine HC.out.mono ?_
  intro e w3 h3
  have HF := Lib.hid (OwnIs.after h3 HB.out)
  obtain ⟨A3, cap3, rfl, _⟩ := h3
  clear HC
  go_wp2
  go_ret
  exact HF.out
theorem clus_ea : clus [101, 769] = [[101, 769]] := by kernel_rfl
theorem clus_xa : clus [101, 769, 97] = [[101, 769], [97]] := by kernel_rfl
set_option maxRecDepth 100000 in
set_option maxHeartbeats 4000000 in
theorem one_is (A : Option Addr) (n c C : Nat) (l : List Int) (w : World) (hr : U.Rd w C .i32 A l) (hl : l.length = n) (hS : F.Sp w) (hO : F.Ord (F.apL l) l) (hcl : clus l = [l]) (hn : n ≤ 1000) :
    Calls Tryz.prog 43 #[.slice A n c] w (fun e w' => e = .returned (.bool true) ∧ Bel w w') := by
  have HC := Lib.hid (clusters_is A n c C l l n w hr hl hS hO hl hn hn)
  have HR := Lib.hid hr
  have HL := Lib.hid hl
  have HCl := Lib.hid hcl
  clear hr hl hS hO hcl
  go_enter Tryz.func43, Tryz.ntmps43
  go_wp2_with fail
  with_reducible refine HC.out.mono ?_
  rintro e w1 ⟨v, rfl, hv, hb⟩
  rw [HCl.out] at hv
  obtain ⟨A1, cap1, rfl, hcap, _, hcell⟩ := hv.rd
  obtain ⟨g, u, rfl, hc, ho⟩ := hcell 0 l rfl
  obtain ⟨Au, capu, rfl, _, hrd, _⟩ := ho.rdn HL.out
  have HE := Lib.hid (F.equal_any Au A n n capu c l l _ C w1 hrd (HR.out.bel hb) HL.out HL.out (by omega))
  have HB := Lib.hid hb
  clear hv hcap hcell ho hrd hb HC
  go_wp2_with fail
  with_reducible refine HE.out.mono ?_
  rintro e w2 ⟨rfl, q, rfl⟩
  go_wp2
  go_ret
  exact ⟨by simp, HB.out.drewN q⟩

theorem enters_mark : ∀ (args : Array Value) (w : World), (callFunc 44 args).run Tryz.prog w = .ok (.enter 44 args) w := enters_of Tryz.func44 (by kernel_rfl) rfl
def BasesP (w : World) (e : Ending) (w' : World) : Prop :=
  ∃ v l, e = .returned v ∧ U.Own w' w.heap.size 21 .i32 v (G.kept mk l) ∧ l.Pairwise (· < ·) ∧ (∀ r, r ∈ l ↔ G.Known r) ∧ Bel w w'
set_option maxRecDepth 100000 in
set_option maxHeartbeats 4000000 in
theorem bases_is (w : World) (hG : G.Gk w) (hS : F.Sp w) : Calls Tryz.prog 67 #[.agg #[]] w (BasesP w) := by
  have HK := Lib.hid (fun w' (h : Bel w w') => G.known_isk w' (hG.bel h))
  have HS := Lib.hid hS
  clear hG hS
  go_enter Tryz.func67, Tryz.ntmps67
  go_wp2_with fail
  with_reducible refine (HK.out _ ((Bel.refl w).alloc _)).mono ?_
  rintro e w1 ⟨v, l, rfl, hrow, hb, hp, hm⟩
  have hbw : Bel w w1 := ((Bel.refl w).alloc _).trans hb
  have hO : U.Own w1 w.heap.size 21 .i32 v l := U.Own.less (show U.Own w1 _ 21 .i32 v l from hrow) (by simp)
  have hs1 := HS.out.by hbw
  have HD := Lib.hid (deleteR_is 44 #[] mk w.heap.size v l w1 enters_mark (by have := G.known_short hp hm; omega) (Below.size hbw) hO (fun x hx w' hb' => by
    have h := (F.mark_is x (mk x) w' (hs1.below hb' HS.out.size) rfl).mono (R' := fun e w'' => e = .returned (.bool (mk x)) ∧ Bel w' w'') (fun e w'' h => ⟨h.1, h.2.bel⟩)
    simpa using h))
  have HF := Lib.hid (And.intro hbw (And.intro hp hm))
  clear hrow hb hp hm hbw hO hs1 HK
  go_wp2_with fail
  with_reducible refine HD.out.mono ?_
  rintro e w2 ⟨v2, rfl, ho2, hb2⟩
  have HO2 := Lib.hid (And.intro ho2 hb2)
  clear ho2 hb2 HD
  go_wp2
  go_ret
  exact ⟨v2, l, rfl, HO2.out.1, HF.out.2.1, HF.out.2.2, Below.trans HF.out.1 HO2.out.2⟩

end Go.Proofs.YtipigfgnpfhdbaaGreatDoor.K
namespace Go.Proofs.YtipigfgnpfhdbaaGreatDoor.K
open Go.RowKit U F
set_option linter.unusedVariables false

/-- A place of a way. -/
def WayAt (w : World) (p : Nat) (x : Int) (u : Value) : Prop := w.cell? ⟨p, 0, none⟩ = some (.int .i32 x) ∧ w.cell? ⟨p, 1, none⟩ = some u ∧ w.frozen? ⟨p, 0, none⟩ = false ∧ w.frozen? ⟨p, 1, none⟩ = false
theorem WayAt.bel {w w' : World} {p : Nat} {x : Int} {u : Value} (h : WayAt w p x u) (hb : Bel w w') : WayAt w' p x u :=
  ⟨cell_bel h.1 hb, cell_bel h.2.1 hb, (Below.frozen hb (p := ⟨p, 0, none⟩) (cell_block h.1)).trans h.2.2.1, (Below.frozen hb (p := ⟨p, 1, none⟩) (cell_block h.2.1)).trans h.2.2.2⟩
theorem WayAt.new (w : World) (x : Int) (u : Value) : WayAt (w.alloc (.cells #[.int .i32 x, u] 54)) w.heap.size x u := by
  refine ⟨?_, ?_, ?_, ?_⟩ <;> simp [go_sem]
theorem WayAt.set {w : World} {p : Nat} {x : Int} {u : Value} (h : WayAt w p x u) (y : Int) (v : Value) : WayAt ((w.setCell ⟨p, 0, none⟩ (.int .i32 y)).setCell ⟨p, 1, none⟩ v) p y v := by
  obtain ⟨h1, h2, h3, h4⟩ := h
  refine ⟨?_, ?_, ?_, ?_⟩ <;> simp [go_sem, h1, h2, h3, h4]
theorem WayAt.new1 (w : World) (z : Value) (t : TypeId) (x : Int) (u : Value) {w1 : World} (hb : Bel ((w.alloc (.cells #[z] t)).alloc (.cells #[.int .i32 x, u] 54)) w1) : WayAt w1 (w.heap.size + 1) x u := by
  have := (WayAt.new (w.alloc (.cells #[z] t)) x u).bel hb
  rwa [World.size_alloc] at this
def NoWay (w : World) (e : Ending) (w' : World) : Prop := e = .returned (.tuple #[.agg #[.int .i32 0, .slice none 0 0], .bool false]) ∧ Bel w w'
set_option maxRecDepth 100000 in
set_option maxHeartbeats 4000000 in
theorem way_no (x : Int) (B : Option Addr) (c C : Nat) (w : World) (hr : U.Rd w C .i32 B [101, 769]) (hk : G.Known x) (hx : x ≠ 101) (hS : F.Sp w) :
    Calls Tryz.prog 68 #[.agg #[.slice B 2 c], .int .i32 x] w (NoWay w) := by
  obtain ⟨L, hL⟩ := ord_ex (F.apL [x])
  obtain ⟨y, t, rfl, hy⟩ := no_e hk hx hL
  have HA := Lib.hid (fun w' (hb : Bel w w') => apart_is x none 0 0 0 [] (y :: t) (t.length + 1) w' (fun i x hx => by simp at hx) rfl (fun _ => rfl) (by omega) (hS.by hb) hL rfl)
  have HR := Lib.hid hr
  have HY := Lib.hid hy
  clear hr hS hL hy
  go_enter Tryz.func68, Tryz.ntmps68
  go_wp2_with fail
  with_reducible refine (HA.out _ (((Bel.refl w).alloc _).alloc _)).mono ?_
  rintro e w1 ⟨A1, cap1, rfl, _, _, H1, _, hb1⟩
  have hbw : Bel w w1 := (((Bel.refl w).alloc _).alloc _).trans hb1
  obtain ⟨g1, o1, rfl, _, c1⟩ := H1.out 0 y rfl
  obtain ⟨g2, o2, rfl, _, c2⟩ := (HR.out.bel hbw) 0 101 rfl
  have c3 : w1.cell? ⟨w.heap.size, 0, none⟩ = some (.slice (some ⟨g2, o2, none⟩) 2 c) := cell_bel (cell_bel (cell_box w (.slice (some ⟨g2, o2, none⟩) 2 c) 73) ((Bel.refl _).alloc (.cells #[.int .i32 0, .slice none 0 0] 54))) hb1
  have hw1 := WayAt.new1 w _ _ 0 (.slice none 0 0) hb1
  rw [Nat.add_zero] at c1 c2
  have hne : (y != 101) = true := by simpa using HY.out
  have k1 : (0 : Int) < ((t.length + 1 : Nat) : Int) := by omega
  have HB := Lib.hid hbw
  have HD := Lib.hid hw1
  clear H1 hb1 hbw HA HR HY hw1
  go_wp2_with fail
  go_quiet (fail)
  have hb2 : Bel w (w1.drewN nq) := HB.out.drewN nq
  have d0 : WayAt (w1.drewN nq) (w.heap.size + 1) 0 (.slice none 0 0) := HD.out
  generalize w1.drewN nq = w2 at hb2 d0 ⊢
  have HT := Lib.hid (d0.set 0 (.slice none 0 0))
  have HB2 : Hid (Bel w ((w2.setCell ⟨w.heap.size + 1, 0, none⟩ (.int .i32 0)).setCell ⟨w.heap.size + 1, 1, none⟩ (.slice none 0 0))) := Lib.hid ((hb2.setCell (by simp) _).setCell (by simp) _)
  obtain ⟨d1, d2, d3, d4⟩ := d0
  clear hb2 c1 c2 c3 k1 hne HB HD
  go_wp2
  obtain ⟨t0, t1, _, _⟩ := HT.out
  clear HT d1 d2 d3 d4
  revert t0 t1 HB2
  generalize ((w2.setCell ⟨w.heap.size + 1, 0, none⟩ (.int .i32 0)).setCell ⟨w.heap.size + 1, 1, none⟩ (.slice none 0 0)) = X
  intro HB2 t0 t1
  exact bodyPost_ret (v := .tuple #[.agg #[.int .i32 0, .slice none 0 0], .bool false]) (by simp [results, Tryz.results68, go_sem, t0, t1]) rfl ⟨rfl, HB2.out⟩
theorem own_else {w : World} {F base i : Nat} {e : TypeId} {k : IntKind} {v u : Value} {l : List Int} (h : U.Own w base e k v l) (hF : F < base) : U.Own (w.setCell ⟨F, i, none⟩ u) base e k v l := by
  refine ⟨h.1, ?_⟩
  rcases h.2 with h | ⟨g, cap, cur, rfl, hbg, hg, rest⟩
  · exact .inl h
  · exact .inr ⟨g, cap, cur, rfl, hbg, by rw [Below.heap_setCell _ _ _ _ (by show g ≠ F; omega)]; exact hg, rest⟩
def Laid1 (w X : World) (p c : Nat) (A : Option Addr) : Prop := WayAt X p 101 (.slice A 1 c) ∧ Bel w X ∧ U.Rd X X.heap.size .i32 A [769]
theorem laid_a {w w3 : World} {c : Nat} {A : Option Addr} (hb : Bel w.drew w3) (hr : U.Rd w3 w3.heap.size .i32 A [769]) : Laid1 w (w3.alloc (.cells #[.int .i32 101, .slice A 1 c] 54)) w3.heap.size c A :=
  ⟨WayAt.new _ _ _, ((Bel.refl _).drew.trans hb).alloc _, fun i x hx => by
    obtain ⟨g, o, e, h1, h2⟩ := hr.bel ((Bel.refl w3).alloc (.cells #[.int .i32 101, .slice A 1 c] 54)) i x hx
    exact ⟨g, o, e, by rw [World.size_alloc]; omega, h2⟩⟩
theorem laid_b {w w3 : World} {c : Nat} {A : Option Addr} (hb : Bel (w.alloc (.cells #[.int .i32 0, .slice none 0 0] 54)).drew w3) (ho : U.Own w3 (w.alloc (.cells #[.int .i32 0, .slice none 0 0] 54)).drew.heap.size 21 .i32 (.slice A 1 c) [769]) :
    Laid1 w ((w3.setCell ⟨w.heap.size, 0, none⟩ (.int .i32 101)).setCell ⟨w.heap.size, 1, none⟩ (.slice A 1 c)) w.heap.size c A := by
  have hz : w.heap.size < (w.alloc (.cells #[.int .i32 0, .slice none 0 0] 54)).drew.heap.size := by
    show w.heap.size < (w.alloc (.cells #[.int .i32 0, .slice none 0 0] 54)).heap.size
    rw [World.size_alloc]; omega
  have hb1 : Bel w w3 := ((Bel.refl _).alloc _).drew.trans hb
  refine ⟨((WayAt.new w 0 (.slice none 0 0)).bel ((Bel.refl _).drew.trans hb)).set _ _, (hb1.setCell (Nat.le_refl _) _).setCell (Nat.le_refl _) _, ?_⟩
  obtain ⟨A', cap, e, _, h, _⟩ := (own_else (i := 1) (u := .slice A 1 c) (own_else (i := 0) (u := .int .i32 101) ho hz) hz).rd
  cases e
  exact h
/-- The way of e itself: one. -/
def YesWay (w : World) (e : Ending) (w' : World) : Prop := ∃ A c, e = .returned (.tuple #[.agg #[.int .i32 101, .slice A 1 c], .bool true]) ∧ Bel w w'
set_option maxRecDepth 100000 in
set_option maxHeartbeats 4000000 in
theorem way_yes (B : Option Addr) (c C : Nat) (w : World) (hr : U.Rd w C .i32 B [101, 769]) (hc : 2 ≤ c) (hS : F.Sp w) :
    Calls Tryz.prog 68 #[.agg #[.slice B 2 c], .int .i32 101] w (YesWay w) := by
  have HA := Lib.hid (fun w' (hb : Bel w w') => apart_is 101 none 0 0 0 [] [101] 1 w' (fun i x hx => by simp at hx) rfl (fun _ => rfl) (by omega) (hS.by hb) ord_e rfl)
  have HE := Lib.hid (fun w' (hb : Bel w w') A c (h : U.Rd w' w'.heap.size .i32 A [769]) (hn : A = none → c = 0) => apart_is 101 A 1 c _ [769] [101, 769] 2 w' h rfl hn (by omega) (hS.by hb) ord_ea rfl)
  have HR := Lib.hid hr
  clear hr hS
  go_enter Tryz.func68, Tryz.ntmps68
  go_wp2_with fail
  with_reducible refine (HA.out _ (((Bel.refl w).alloc _).alloc _)).mono ?_
  rintro e w1 ⟨A1, cap1, rfl, hcap1, _, H1, _, hb1⟩
  have hbw : Bel w w1 := (((Bel.refl w).alloc _).alloc _).trans hb1
  obtain ⟨g1, o1, rfl, _, c1⟩ := H1.out 0 101 rfl
  obtain ⟨g2, o2, rfl, _, c2⟩ := (HR.out.bel hbw) 0 101 rfl
  have c3 : w1.cell? ⟨w.heap.size, 0, none⟩ = some (.slice (some ⟨g2, o2, none⟩) 2 c) := cell_bel (cell_bel (cell_box w (.slice (some ⟨g2, o2, none⟩) 2 c) 73) ((Bel.refl _).alloc (.cells #[.int .i32 0, .slice none 0 0] 54))) hb1
  have hw1 := WayAt.new1 w _ _ 0 (.slice none 0 0) hb1
  rw [Nat.add_zero] at c1 c2
  have hne : ((101 : Int) != 101) = false := by simp
  have hs1 : w.heap.size + 2 ≤ w1.heap.size := by
    have := Below.size hb1
    simp only [World.size_alloc] at this
    omega
  have HB := Lib.hid hbw
  have HD := Lib.hid (And.intro hw1 (And.intro c3 hs1))
  have HRo := Lib.hid H1.out
  clear H1 hb1 hbw HA hw1 hs1
  go_wp2_with fail
  go_quiet (fail)
  have hb2 : Bel w (w1.drewN nq) := HB.out.drewN nq
  have d0 : WayAt (w1.drewN nq) (w.heap.size + 1) 0 (.slice none 0 0) := HD.out.1
  have d2 : (w1.drewN nq).cell? ⟨w.heap.size, 0, none⟩ = some (.slice (some ⟨g2, o2, none⟩) 2 c) := HD.out.2.1
  have hs2 : w.heap.size + 2 ≤ (w1.drewN nq).heap.size := HD.out.2.2
  generalize w1.drewN nq = w2 at hb2 d0 d2 hs2 ⊢
  have HD0 := Lib.hid d0
  obtain ⟨A3, hA3⟩ : ∃ A3, (if c = 1 then some (Addr.mk g2 o2 none) else some (Addr.mk g2 (o2 + 1) none)) = A3 := ⟨_, rfl⟩
  obtain ⟨A4, hA4⟩ : ∃ A4, (if cap1 = 1 then some (Addr.mk g1 o1 none) else some (Addr.mk g1 (o1 + 1) none)) = A4 := ⟨_, rfl⟩
  have hrd : U.Rd w2 C .i32 A3 [769] := hA3 ▸ rd_tail' (k := 1) (HR.out.bel hb2) rfl hc
  have hA3n : A3 = none → ([769] : List Int) = [] := fun e => by rw [e] at hA3; split at hA3 <;> cases hA3
  have HW := Lib.hid (fun w' (hb : Bel w2 w') => without_is A3 A4 1 (c - 1) 0 (cap1 - 1) C 0 [769] [] w' (hrd.bel hb) rfl (by omega) hA3n (fun i x hx => by simp at hx) rfl (by omega))
  have d2' : (w2.drew).cell? ⟨w.heap.size, 0, none⟩ = some (.slice (some ⟨g2, o2, none⟩) 2 c) := d2
  have d2'' : (w2.alloc (.cells #[.int .i32 0, .slice none 0 0] 54)).cell? ⟨w.heap.size, 0, none⟩ = some (.slice (some ⟨g2, o2, none⟩) 2 c) := cell_bel d2 ((Bel.refl w2).alloc _)
  have HB2 := Lib.hid hb2
  clear hb2 d0 hrd hA3n c1 c2 c3 hne HB HD HRo
  go_wp2_with fail
  go_region_law (first
    | (go_simp; go_at_call 48; refine (HW.out _ (by first | exact (Bel.refl _).drew | exact ((Bel.refl _).alloc _).drew)).mono ?_; rintro e w3 ⟨v3, rfl, hown3, hb3⟩; obtain ⟨A5, cap5, rfl, _, hrd5, hnil5⟩ := hown3.rdn (show ([769] : List Int).length = 1 from rfl); try (have hq : WayAt w3 w2.heap.size 0 (.slice none 0 0) := (WayAt.new w2 0 (.slice none 0 0)).bel (w' := w3) ((Bel.refl _).drew.trans hb3); obtain ⟨f1, f2, f3, f4⟩ := hq))
    | fail)
  all_goals (
    first
      | (have hx := laid_a (w := w2) (c := cap5) hb3 hrd5
         generalize w3.alloc (.cells #[.int .i32 101, .slice A5 1 cap5] 54) = X at hx ⊢
         generalize w3.heap.size = p at hx ⊢)
      | (have hx := laid_b (w := w2) hb3 hown3
         generalize ((w3.setCell ⟨w2.heap.size, 0, none⟩ (.int .i32 101)).setCell ⟨w2.heap.size, 1, none⟩ (.slice A5 1 cap5)) = X at hx ⊢
         generalize w2.heap.size = p at hx hs2 ⊢)
    clear hb3 hown3 hrd5 HW d2' d2'' hA3 hA4
    try clear f1 f2 f3 f4
    obtain ⟨hx1, hx2, hx3⟩ := hx
    have hW4 := HD0.out.bel hx2
    have e2 := cell_bel d2 hx2
    have hbx := HB2.out.trans hx2
    clear hx2 d2 HD0 HB2
    obtain ⟨x0, x1, x2, x3⟩ := hx1
    have HX := Lib.hid (And.intro (show WayAt X p 101 (.slice A5 1 cap5) from ⟨x0, x1, x2, x3⟩) (And.intro hW4 hbx))
    have hE := HE.out X.drew hbx.drew A5 cap5 hx3 hnil5
    have HQ := Lib.hid (fun W (hb : Bel X W) A d (h : U.Rd W W.heap.size .i32 A [101, 769]) => F.equal_any A (some ⟨g2, o2, none⟩) 2 2 d c [101, 769] [101, 769] _ C W h (HR.out.bel (hbx.trans hb)) rfl rfl (by omega))
    clear x0 x2 x3 hW4 hx3 hnil5 HE hbx HR
    go_wp2_with fail
    go_region_law (first
      | (go_simp; go_at_call 109; refine hE.mono ?_; rintro e w4 ⟨A6, cap6, rfl, _, _, H6, _, hb4⟩; have hQ := HQ.out w4 ((Bel.refl _).drew.trans hb4) A6 cap6 H6.out; have e4 := cell_bel e2 ((Bel.refl _).drew.trans hb4))
      | (go_simp; go_at_call 65; refine hQ.mono ?_; rintro e w5 ⟨rfl, q5, rfl⟩)
      | fail))
  all_goals (
    have hb5 : Bel X (w4.drewN q5) := ((Bel.refl _).drew.trans hb4).drewN q5
    generalize w4.drewN q5 = w5 at hb5 ⊢
    obtain ⟨x0, x1, x2, x3⟩ := HX.out.1.bel hb5
    have hY := HX.out.2.1.bel hb5
    have HT := Lib.hid (hY.set 101 (.slice A5 1 cap5))
    obtain ⟨y0, y1, y2, y3⟩ := hY
    have HF : Hid (Bel w ((w5.setCell ⟨w.heap.size + 1, 0, none⟩ (.int .i32 101)).setCell ⟨w.heap.size + 1, 1, none⟩ (.slice A5 1 cap5))) := Lib.hid (((HX.out.2.2.trans hb5).setCell (Nat.le_succ _) _).setCell (Nat.le_succ _) _)
    clear hb5 hb4 HX HQ hE hQ e4 H6
    go_wp2
    obtain ⟨t0, t1, _, _⟩ := HT.out
    clear HT y0 y1 y2 y3 x0 x1 x2 x3
    revert HF t0 t1
    generalize ((w5.setCell ⟨w.heap.size + 1, 0, none⟩ (.int .i32 101)).setCell ⟨w.heap.size + 1, 1, none⟩ (.slice A5 1 cap5)) = Z
    intro HF t0 t1
    exact bodyPost_ret (v := .tuple #[.agg #[.int .i32 101, .slice A5 1 cap5], .bool true]) (by simp [results, Tryz.results68, go_sem, t0, t1]) rfl ⟨A5, cap5, rfl, HF.out⟩)
end Go.Proofs.YtipigfgnpfhdbaaGreatDoor.K
