/- All ways of e with an acute: one, with the base e. cluster.Ways of e with an acute; what the law's 'answers' answers: yes. What cluster.firsts answers: the first mark of each class, rising. What cluster.orders answers: all orders, rising; each a row of its own. What cluster.Orders answers: all orders of at most six marks; nothing of more, or of what is no mark. A row of lists of the call's own: its cells, and one of them changed. The reference's sort of lists of one length: one more each round, exchanged downward while it is less. Plain mathematics. What the reference's less answers of two lists of one length. -/
import Derived.Test.YtipigfgnpfhdbaaGreatDoorM13
import Derived.Test.YtipigfgnpfhdbaaGreatDoorM9
import Derived.Test.YtipigfgnpfhdbaaGreatDoorM10
import Derived.Test.YtipigfgnpfhdbaaGreatDoorM11
namespace Go.Proofs.YtipigfgnpfhdbaaGreatDoor.K
open Go.RowKit U F
set_option linter.unusedVariables false

theorem infoWs : (Tryz.prog.info? 54).map (fun i => (i.zero, i.size, i.bytes)) = some (some (.agg #[.int .i32 0, .slice none 0 0]), 2, 32) := by kernel_rfl
/-- One way, onto nothing. -/
theorem run_append_w {w : World} {ty : TypeId} {base : Nat} {x : Int} {A : Option Addr} {n k g c : Nat} (h0 : w.cell? ⟨g, 0, none⟩ = some (.int .i32 x)) (h1 : w.cell? ⟨g, 1, none⟩ = some (.slice A n k)) (hbase : base ≤ w.heap.size) :
    ∃ g' c' w', (Builtin.append_ #[51, 51] ty #[.slice none 0 0, .slice (some ⟨g, 0, none⟩) 1 c]).run Tryz.prog w = .ok (.slice (some ⟨g', 0, none⟩) 1 c') w' ∧ w'.cell? ⟨g', 0, none⟩ = some (.int .i32 x) ∧ Below base w w' := by
  obtain ⟨i0, hi0, hz0, hz1, hz2⟩ := info_parts infoWs
  obtain ⟨v', w', k1, k2, k3, _, k5⟩ := run_append_own_at (P := Tryz.prog) w base 51 ty 54 i0 _ 2 32 Tryz.underlying51 hi0 hz0 hz1 hz2 rfl (by omega) (.slice none 0 0) 0 [] (World.ownsRow_nil _ _ _ _) ⟨g, 0, none⟩ 1 c [.int .i32 x, .slice A n k] (by simp)
    (fun j u hu => by
      rw [addr_add, Nat.zero_add]
      match j with
      | 0 => simp at hu; subst hu; exact h0
      | 1 => simp at hu; subst hu; exact h1
      | j + 2 => simp at hu) (fun u hu => by
      simp at hu
      rcases hu with rfl | rfl <;> rfl) (by simp only [maxLen]; omega) (by omega) hbase
  have hB : Below base w w' := (Below.refl _ _).grown k3 hbase fun g hg => (World.ownsRow.lt (World.ownsRow_nil w base 54 2) g hg).1
  rcases k2.2 with ⟨_, he⟩ | ⟨g', cap, cur, rfl, hbg, hg, _, _, _, ht⟩
  · simp at he
  · refine ⟨g', cap, w', k1, ?_, hB⟩
    have h2 : cur[0]? = some (.int .i32 x) := by
      have := congrArg (fun l : List Value => l[0]?) ht
      simpa using this
    simp [World.cell?, hg, h2]
theorem wpl_append_w {w : World} {ops : Array Oper} {rest : List Oper} {o : Oper} {a : Act} {Q : Exit → Act → World → Prop} (hw : Region.wanted o (yielded ops a.tmps) = true) (s x : Operand)
    (ho : o.op = .call { callee := .builtin .append, args := #[s, x], argTypes := #[51, 51] })
    {base : Nat} {r : Int} {A : Option Addr} {n k g c : Nat} (hs : a.eval s = .slice none 0 0) (hx : a.eval x = .slice (some ⟨g, 0, none⟩) 1 c) (h0 : w.cell? ⟨g, 0, none⟩ = some (.int .i32 r)) (h1 : w.cell? ⟨g, 1, none⟩ = some (.slice A n k)) (hbase : base ≤ w.heap.size)
    (h : ∀ g' c' w', w'.cell? ⟨g', 0, none⟩ = some (.int .i32 r) → Below base w w' → wpList Tryz.prog ops Q rest (a.put o.dst (.slice (some ⟨g', 0, none⟩) 1 c')) w') : wpList Tryz.prog ops Q (o :: rest) a w := by
  refine BigFrame.wpList_want hw fun K hK => ?_
  obtain ⟨g', c', w', hrun, h2, h3⟩ := run_append_w (ty := o.type) (c := c) h0 h1 hbase
  unfold Oper.wp execOp
  simp only [ho, resolve, invoke, builtin, Sem.run_bind, Sem.run_pure, Result.andThen_ok, List.map_toArray, List.map_cons, List.map_nil, hs, hx, hrun]
  exact hK _ _ (h g' c' w' h2 h3)

theorem cellsF : Tryz.prog.cellsOf 73 = 1 := by kernel_rfl
theorem byteF : byteOfCell Tryz.prog Tryz.prog.depth 73 0 = some 0 := by kernel_rfl
/-- The place of what a finder embeds, a struct of nothing. -/
theorem part_none (w : World) (v : Value) : (partAt ⟨w.heap.size, 0, none⟩ 0 0).run Tryz.prog (w.alloc (.cells #[v] 73)) = .ok ⟨w.heap.size, 0, none⟩ (w.alloc (.cells #[v] 73)) := by
  have hh : (w.alloc (.cells #[v] 73)).heap[w.heap.size]? = some (.cells #[v] 73 (0, 0)) := heap_alloc_new w _
  have hs : (w.alloc (.cells #[v] 73)).shape? w.heap.size = some (73, 1) := by
    unfold World.shape?
    rw [hh]
    rfl
  unfold partAt byteOf
  simp [go_sem, noView, viewAt, hs, cellsF, byteF]
theorem kinc {k n : Nat} (h : k < n) (hn : n ≤ 200000) : wrap64 ((k : Int) + 1) = ((k + 1 : Nat) : Int) := by unfold wrap64; omega
theorem kmeas {k n : Nat} {x : Int} (h : k < n) (hx : x = ((k + 1 : Nat) : Int)) : n - (intOf (.int .i64 x)).toNat < n - (intOf (.int .i64 (k : Int))).toNat := by
  subst hx
  show n - ((k + 1 : Nat) : Int).toNat < n - ((k : Nat) : Int).toNat
  omega

theorem mk_e : mk 101 = false := by unfold mk; rw [cls_e]; rfl
theorem kept_mem {p : Int → Bool} {l : List Int} {x : Int} : x ∈ G.kept p l ↔ x ∈ l ∧ p x = false := by
  unfold G.kept
  simp
theorem kept_len (p : Int → Bool) (l : List Int) : (G.kept p l).length ≤ l.length := List.length_filter_le _ _
theorem kept_rise {p : Int → Bool} {l : List Int} (h : l.Pairwise (· < ·)) : (G.kept p l).Pairwise (· < ·) := h.filter _
theorem not_ahead {l : List Int} (h : l.Pairwise (· < ·)) {k : Nat} {x : Int} (hx : l[k]? = some x) : x ∉ l.take k := fun hm => by
  obtain ⟨i, hi, he⟩ := List.mem_iff_getElem.1 hm
  rw [List.length_take] at hi
  rw [List.getElem_take] at he
  have hk := (List.getElem?_eq_some_iff.1 hx).1
  have h1 := List.pairwise_iff_getElem.1 h i k (by omega) hk (by omega)
  rw [he, (List.getElem?_eq_some_iff.1 hx).2] at h1
  omega
def WaysR (w1 : World) (K : List Int) (v i : Value) (wr : World) : Prop :=
  ∃ k : Nat, i = .int .i64 k ∧ k ≤ K.length ∧ Hid (((101 ∉ K.take k ∧ v = .slice none 0 0) ∨ (101 ∈ K.take k ∧ ∃ g c, v = .slice (some ⟨g, 0, none⟩) 1 c ∧ wr.cell? ⟨g, 0, none⟩ = some (.int .i32 101))) ∧ Bel w1 wr)
def WaysP (w : World) (e : Ending) (w' : World) : Prop := ∃ g c, e = .returned (.slice (some ⟨g, 0, none⟩) 1 c) ∧ w'.cell? ⟨g, 0, none⟩ = some (.int .i32 101) ∧ Bel w w'
set_option maxRecDepth 100000 in
set_option maxHeartbeats 4000000 in
theorem ways_is (B : Option Addr) (c C : Nat) (w : World) (hr : U.Rd w C .i32 B [101, 769]) (hc : 2 ≤ c) (hG : G.Gk w) (hS : F.Sp w) :
    Calls Tryz.prog 46 #[.agg #[.slice B 2 c]] w (WaysP w) := by
  have HB := Lib.hid (fun w' (hb : Bel w w') => bases_is w' (hG.bel hb) (hS.by hb))
  have HY := Lib.hid (fun w' (hb : Bel w w') => way_yes B c C w' (hr.bel hb) hc (hS.by hb))
  have HN := Lib.hid (fun x (hk : G.Known x) (hx : x ≠ 101) w' (hb : Bel w w') => way_no x B c C w' (hr.bel hb) hk hx (hS.by hb))
  clear hr hG hS hc
  have c0 := cell_box w (.slice B 2 c) 73
  have p0 := part_none w (.slice B 2 c)
  go_enter Tryz.func46, Tryz.ntmps46
  go_wp2_with fail
  with_reducible refine (HB.out _ ((Bel.refl w).alloc _)).mono ?_
  rintro e w1 ⟨v, l, rfl, hown, hp, hm, hb⟩
  have hbw : Bel w w1 := ((Bel.refl w).alloc _).trans hb
  have c1 : w1.cell? ⟨w.heap.size, 0, none⟩ = some (.slice B 2 c) := cell_bel c0 hb
  have hlen : (G.kept mk l).length ≤ 200000 := Nat.le_trans (kept_len _ _) (G.known_short hp hm)
  have hin : (101 : Int) ∈ G.kept mk l := kept_mem.2 ⟨(hm 101).2 known_e, mk_e⟩
  have hkn : ∀ x ∈ G.kept mk l, G.Known x := fun x hx => (hm x).1 (kept_mem.1 hx).1
  have hkr := kept_rise (p := mk) hp
  generalize G.kept mk l = K at hown hlen hin hkn hkr
  obtain ⟨A, cap, rfl, hcap, hrd, _⟩ := hown.rd
  obtain ⟨n, hn⟩ : ∃ n, K.length = n := ⟨_, rfl⟩
  rw [hn] at hlen
  have HK := Lib.hid (And.intro hin (And.intro hkn hkr))
  have HR := Lib.hid hrd
  have HBW := Lib.hid hbw
  have HN1 := Lib.hid (And.intro hn hlen)
  have HC1 := Lib.hid c1
  rw [hn]
  clear hown hin hkn hkr hcap hrd hbw hb hlen hn hp hm c0 c1 HB p0
  go_wp2
  go_loopw [3, 12] (fun v i wr => WaysR w1 K v i wr) (fun v i _ => n - (intOf i).toNat)
  case atStart => exact ⟨0, rfl, Nat.zero_le _, Lib.hid ⟨.inl ⟨by simp, rfl⟩, Bel.refl _⟩⟩
  case round =>
    obtain ⟨k, rfl, hk, HQ⟩ := hrel
    rw [HN1.out.1] at hk
    by_cases hlt : k < n
    · obtain ⟨x, hx⟩ : ∃ x, K[k]? = some x := ⟨K[k]'(by rw [HN1.out.1]; exact hlt), by simp⟩
      obtain ⟨g, off, rfl, _, hcx⟩ := (HR.out.bel HQ.out.2) k x hx
      have q0 : (0 : Int) ≤ (k : Int) := by omega
      have q1 : (k : Int) < (n : Int) := by omega
      have q2 := kinc hlt HN1.out.2
      have q3 : wr.cell? ⟨w.heap.size, 0, none⟩ = some (.slice B 2 c) := cell_bel HC1.out HQ.out.2
      have hm1 : n - (k + 1) < n - k := by omega
      have HM1 := Lib.hid hm1
      have HX := Lib.hid hx
      have HLT := Lib.hid hlt
      have HBR := Lib.hid (HBW.out.trans HQ.out.2)
      clear hm1 hx hlt hk
      by_cases hxe : x = 101
      · subst hxe
        obtain ⟨hq, hbq⟩ := HQ.out
        rcases hq with ⟨_, rfl⟩ | ⟨hmm, _⟩
        · have hy := HY.out _ HBR.out
          have HBQ := Lib.hid hbq
          clear hbq HQ HN HR
          go_wp2_with fail
          with_reducible refine hy.mono ?_
          rintro e w2 ⟨A2, c2, rfl, hb2⟩
          have hX : WayAt ((w2.alloc (.cells #[.int .i32 101, .slice A2 1 c2] 54)).alloc (.cells #[.int .i32 101, .slice A2 1 c2] 54)) (w2.heap.size + 1) 101 (.slice A2 1 c2) := by
            have := WayAt.new (w2.alloc (.cells #[.int .i32 101, .slice A2 1 c2] 54)) 101 (.slice A2 1 c2)
            rwa [World.size_alloc] at this
          have hbX := Lib.hid ((hb2.alloc (.cells #[.int .i32 101, .slice A2 1 c2] 54)).alloc (.cells #[.int .i32 101, .slice A2 1 c2] 54))
          obtain ⟨x0, x1, x2, x3⟩ := hX
          clear hb2 hy
          go_wp2_with (first | (at_builtin; refine wpl_append_w (by rfl) (.tmp 23) (.tmp 25) (by rfl) (by rfl) (by rfl) x0 x1 (Nat.le_refl _) ?_; intro g' c' w3 hc3 hb3; have HC3 := Lib.hid hc3; have HB3 := Lib.hid (hbX.out.trans hb3); clear x0 x1 x2 x3 hc3 hb3 hbX) | fail)
          have hke : K.take (k + 1) = K.take k ++ [101] := by rw [List.take_add_one, HX.out, Option.toList_some]
          have HKE := Lib.hid hke
          clear hke
          go_roundw
          case rel => exact ⟨k + 1, congrArg _ q2, by rw [HN1.out.1]; exact HLT.out, Lib.hid ⟨.inr ⟨by rw [HKE.out]; simp, g', c', rfl, HC3.out⟩, HBQ.out.trans HB3.out⟩⟩
          case measure => exact kmeas HLT.out q2
        · exact absurd hmm (not_ahead HK.out.2.2 HX.out)
      · have hy := HN.out x (HK.out.2.1 x (List.mem_of_getElem? HX.out)) hxe _ HBR.out
        go_wp2_with fail
        with_reducible refine hy.mono ?_
        rintro e w2 ⟨rfl, hb2⟩
        have HB2 : Hid (Bel wr (w2.alloc (.cells #[.int .i32 0, .slice none 0 0] 54))) := Lib.hid (hb2.alloc _)
        clear hb2 hy
        go_wp2
        have hke : K.take (k + 1) = K.take k ++ [x] := by rw [List.take_add_one, HX.out, Option.toList_some]
        have HKE := Lib.hid hke
        have HXE := Lib.hid hxe
        clear hke hxe
        go_roundw
        case rel =>
          refine ⟨k + 1, congrArg _ q2, by rw [HN1.out.1]; exact HLT.out, Lib.hid ⟨?_, HQ.out.2.trans HB2.out⟩⟩
          rw [HKE.out]
          rcases HQ.out.1 with ⟨h1, h2⟩ | ⟨h1, g', c', h2, h3⟩
          · refine .inl ⟨fun h => ?_, h2⟩
            rcases List.mem_append.1 h with h | h
            · exact h1 h
            · exact HXE.out (List.mem_singleton.1 h).symm
          · exact .inr ⟨List.mem_append_left _ h1, g', c', h2, cell_bel h3 HB2.out⟩
        case measure => exact kmeas HLT.out q2
    · obtain rfl : k = n := by omega
      have q1 : ¬ (k : Int) < (k : Int) := by omega
      have HB := Lib.hid (HBW.out.trans HQ.out.2)
      rcases HQ.out.1 with ⟨h1, _⟩ | ⟨_, g, c', rfl, h3⟩
      · exact absurd (by rw [List.take_of_length_le (by rw [HN1.out.1]; exact Nat.le_refl _)]; exact HK.out.1) h1
      · have H3 := Lib.hid h3
        clear h3 hk hlt HQ
        go_wp2
        go_ret
        exact ⟨g, c', rfl, H3.out, HB.out⟩
end Go.Proofs.YtipigfgnpfhdbaaGreatDoor.K
namespace Go.Proofs.YtipigfgnpfhdbaaGreatDoor.K
open Go.RowKit U F
set_option linter.unusedVariables false

set_option maxRecDepth 100000 in
set_option maxHeartbeats 4000000 in
theorem two_ways (g c C : Nat) (w : World) (hr : U.Rd w C .i32 (some ⟨g, 0, none⟩) [101, 769]) (hc : 2 ≤ c) (hG : G.Gk w) (hS : F.Sp w) :
    Calls Tryz.prog 24 #[.slice (some ⟨g, 0, none⟩) 2 c] w (WaysP w) := by
  have HO := Lib.hid (one_is (some ⟨g, 0, none⟩) 2 c C [101, 769] w hr rfl hS ord_ea clus_ea (by omega))
  have HM := Lib.hid (fun w' (hb : Bel w w') => F.mark_is 101 false w' (hS.by hb) (by rw [cls_e]; rfl))
  have HW := Lib.hid (fun w' (hb : Bel w w') => ways_is (some ⟨g, 0, none⟩) c C w' (hr.bel hb) hc (hG.bel hb) (hS.by hb))
  have HR := Lib.hid hr
  clear hr hG hS
  go_enter Tryz.func24, Tryz.ntmps24
  go_wp2_with fail
  with_reducible refine HO.out.mono ?_
  rintro e w1 ⟨rfl, hb1⟩
  obtain ⟨g', o', e', _, c1⟩ := (HR.out.bel hb1) 0 101 rfl
  cases e'
  have HB1 := Lib.hid hb1
  clear HO hb1
  go_wp2_with fail
  with_reducible refine (HM.out _ HB1.out).mono ?_
  rintro e w2 ⟨rfl, hb2⟩
  have HB2 := Lib.hid (HB1.out.trans hb2.bel)
  clear HM hb2 HB1
  go_wp2_with fail
  with_reducible refine (HW.out _ HB2.out).mono ?_
  rintro e w3 ⟨g3, c3, rfl, h3, hb3⟩
  have HF := Lib.hid (And.intro h3 (HB2.out.trans hb3))
  clear h3 hb3 HB2 HW
  go_wp2
  go_ret
  exact ⟨g3, c3, rfl, HF.out.1, HF.out.2⟩
def AnsK (w : World) (e : Ending) (w' : World) : Prop := e = .returned (.bool true) ∧ Bel w w'
set_option maxRecDepth 100000 in
set_option maxHeartbeats 4000000 in
theorem answers_is (w : World) (hG : G.Gk w) (hS : F.Sp w) : Calls Tryz.prog 10 #[] w (AnsK w) := by
  have hr1 : U.Rd (w.alloc (.cells #[.int .i32 233, .int .i32 97] 21)) (w.alloc (.cells #[.int .i32 233, .int .i32 97] 21)).heap.size .i32 (some ⟨w.heap.size, 0, none⟩) [233, 97] := by
    obtain ⟨A, cap, e, _, h, _⟩ := (U.Own.lit w 21 .i32 (cs := #[.int .i32 233, .int .i32 97]) (l := [233, 97]) (n := 2) rfl rfl (by omega)).rd
    cases e
    exact h
  have HC := Lib.hid (clusters_is _ 2 2 _ [233, 97] [101, 769, 97] 3 _ hr1 rfl (hS.by ((Bel.refl w).alloc _)) ord_xa rfl (by omega) (by omega))
  have HG := Lib.hid hG
  have HS := Lib.hid hS
  clear hr1 hG hS
  go_enter Tryz.func10, Tryz.ntmps10
  go_wp2_with fail
  with_reducible refine HC.out.mono ?_
  rintro e w1 ⟨v, rfl, hv, hb1⟩
  rw [clus_xa] at hv
  obtain ⟨A1, cap1, rfl, hcap, _, hcell⟩ := hv.rd
  obtain ⟨g, u, rfl, hc, ho⟩ := hcell 0 [101, 769] rfl
  obtain ⟨Au, capu, rfl, _, _, _⟩ := ho.rdn (show ([101, 769] : List Int).length = 2 from rfl)
  have hbw : Bel w w1 := ((Bel.refl w).alloc _).trans hb1
  have hr2 : U.Rd (w1.alloc (.cells #[.int .i32 101, .int .i32 769] 21)) (w1.alloc (.cells #[.int .i32 101, .int .i32 769] 21)).heap.size .i32 (some ⟨w1.heap.size, 0, none⟩) [101, 769] := by
    obtain ⟨A, cap, e, _, h, _⟩ := (U.Own.lit w1 21 .i32 (cs := #[.int .i32 101, .int .i32 769]) (l := [101, 769]) (n := 2) rfl rfl (by omega)).rd
    cases e
    exact h
  have HW := Lib.hid (two_ways w1.heap.size 2 _ _ hr2 (by omega) (HG.out.bel (hbw.alloc _)) (HS.out.by (hbw.alloc _)))
  have HB := Lib.hid hbw
  have HCe := Lib.hid hc
  clear HC hv hcell ho hb1 hbw hr2 HG HS hc
  go_wp2_with fail
  with_reducible refine HW.out.mono ?_
  rintro e w2 ⟨g2, c2, rfl, h2, hb2⟩
  have hc2 := cell_bel HCe.out (((Bel.refl w1).alloc _).trans hb2)
  have HB2 := Lib.hid (HB.out.trans (((Bel.refl w1).alloc _).trans hb2))
  clear HW hb2 HB HCe
  trace_state
  go_wp2
  go_ret
  exact ⟨rfl, HB2.out⟩
end Go.Proofs.YtipigfgnpfhdbaaGreatDoor.K
namespace Go.Proofs.YtipigfgnpfhdbaaGreatDoor.K
open Go.RowKit U F
set_option linter.unusedVariables false

def FirstsRel (w : World) (l : List Int) (v i : Value) (w' : World) : Prop :=
  ∃ k : Nat, i = .int .i64 k ∧ k ≤ l.length ∧ Hid (U.Own w' w.heap.size 21 .i32 v (pf cls (l.take k)) ∧ Bel w w')
def FirstsPost (w : World) (l : List Int) (e : Ending) (w' : World) : Prop :=
  ∃ v G, e = .returned v ∧ U.Own w' w.heap.size 21 .i32 v G ∧ G.Pairwise (· < ·) ∧ (∀ m, m ∈ G ↔ FirstOf cls m l) ∧ G.length ≤ l.length ∧ Bel w w'
theorem infoR : (Tryz.prog.info? 21).map (fun i => (i.zero, i.size, i.bytes)) = some (some (.int .i32 0), 1, 4) := by kernel_rfl
theorem any_same {L : List Int} {m : Int} : L.any (fun f => cls f == cls m) = L.any (fun f => decide (cls f = cls m)) := by
  congr 1

set_option maxRecDepth 100000 in
set_option maxHeartbeats 4000000 in
theorem firsts_is (A : Option Addr) (n c C : Nat) (l : List Int) (w : World) (hr : U.Rd w C .i32 A l) (hl : l.length = n) (hne : l ≠ []) (hn : n ≤ 1000) (hS : F.Sp w) :
    Calls Tryz.prog 47 #[.slice A n c] w (FirstsPost w l) := by
  obtain ⟨i0, hi0, hz0, hz1, hz2⟩ := info_parts infoR
  have HR := Lib.hid hr
  have HL := Lib.hid hl
  have HS := Lib.hid hS
  have HNE := Lib.hid hne
  have HP := Lib.hid (pf_len (cls := cls) n l hl)
  have HPM := Lib.hid (pf_mem (cls := cls) n l hl)
  have HPN := Lib.hid (pf_nodup (cls := cls) n l hl)
  clear hr hl hS hne
  go_enter Tryz.func47, Tryz.ntmps47
  go_wp2
  go_loopw [3, 8] (fun v i wr => FirstsRel w l v i wr) (fun v i _ => n - (intOf i).toNat)
  case atStart => exact ⟨0, rfl, Nat.zero_le _, Lib.hid ⟨Own.nil _ _ _ _, Bel.refl _⟩⟩
  case round =>
    obtain ⟨k, rfl, hk, HK⟩ := hrel
    rw [HL.out] at hk
    by_cases hlt : k < n
    · obtain ⟨m, hm⟩ : ∃ m, l[k]? = some m := ⟨l[k]'(by rw [HL.out]; exact hlt), by simp⟩
      obtain ⟨g, off, rfl, _, hc⟩ := (HR.out.bel HK.out.2) k m hm
      have q0 : (0 : Int) ≤ (k : Int) := by omega
      have q1 : (k : Int) < (n : Int) := by omega
      have hke : l.take (k + 1) = l.take k ++ [m] := by rw [List.take_add_one, hm, Option.toList_some]
      have HKE := Lib.hid hke
      obtain ⟨fl, hfl⟩ : ∃ fl, pf cls (l.take k) = fl := ⟨_, rfl⟩
      have hfll : fl.length ≤ 1000 := by
        have := pf_len (cls := cls) k (l.take k) (by rw [List.length_take, HL.out]; omega)
        rw [hfl] at this
        omega
      obtain ⟨b, hb⟩ : ∃ b, fl.any (fun f => decide (cls f = cls m)) = b := ⟨_, rfl⟩
      have hnew : pf cls (l.take (k + 1)) = if b = true then fl else fl ++ [m] := by
        rw [hke, pf_snoc, hfl, addF, any_same, hb]
      have HNEW := Lib.hid hnew
      obtain ⟨hown, hbw⟩ := HK.out
      rw [hfl] at hown
      obtain ⟨A', cap, rfl, hcap, hrd, hA⟩ := hown.rd
      have HO := Lib.hid hown
      have HB := Lib.hid hbw
      have hbx : Bel wr (wr.alloc (.cells #[.int .i32 0] 21)) := (Bel.refl wr).alloc _
      have HC : Hid (Calls Tryz.prog 69 #[.slice A' fl.length cap, .func (.func 70) #[] #[.pointer (some ⟨wr.heap.size, 0, none⟩)]] (wr.alloc (.cells #[.int .i32 m] 21)) (fun e w' => e = .returned (.bool b) ∧ Bel (wr.alloc (.cells #[.int .i32 m] 21)) w')) := Lib.hid
        (contains_is 70 #[.pointer (some ⟨wr.heap.size, 0, none⟩)] (fun f => decide (cls f = cls m)) b A' fl.length cap wr.heap.size fl _ enters_firsts (by omega) rfl (hrd.bel ((Bel.refl wr).alloc _))
          (fun x _ w' hw' => same_is m x wr.heap.size _ w' (HS.out.by (hbw.trans (((Bel.refl wr).alloc _).trans hw'))) (cell_bel (cell_box wr (.int .i32 m) 21) hw') rfl) hb)
      have hbx : Bel wr (wr.alloc (.cells #[.int .i32 m] 21)) := (Bel.refl wr).alloc _
      have hcx : (wr.alloc (.cells #[.int .i32 m] 21)).cell? ⟨wr.heap.size, 0, none⟩ = some (.int .i32 m) := cell_box wr (.int .i32 m) 21
      have HX := Lib.hid (And.intro hbx hcx)
      clear hm hke hfl hnew hown hbw hrd hA HK hb hbx hcx
      cases b with
      | true =>
        go_wp2_with fail
        with_reducible refine HC.out.mono ?_
        rintro e w1 ⟨rfl, hb1⟩
        have HB1 := Lib.hid (HX.out.1.trans hb1)
        clear hb1 HC HX
        go_wp2
        go_roundw
        case rel => exact ⟨k + 1, by go_num, by rw [HL.out]; omega, Lib.hid ⟨by have h := HNEW.out; simp at h; rw [h]; exact HO.out.keep HB1.out, HB.out.trans HB1.out⟩⟩
        case measure => simp [intOf]; omega
      | false =>
        go_wp2_with fail
        with_reducible refine HC.out.mono ?_
        rintro e w1 ⟨rfl, hb1⟩
        have HB1 := Lib.hid (HX.out.1.trans hb1)
        have c1 := cell_bel HX.out.2 hb1
        have HO1 := Lib.hid ((HO.out.keep HB1.out).keep ((Bel.refl w1).alloc (.cells #[.int .i32 m] 21)))
        have HRD := Lib.hid (F.rd_lit (w := w1) (cs := #[.int .i32 m]) (t := 21) (k := .i32) (l := [m]) rfl)
        have hbase : w.heap.size ≤ (w1.alloc (.cells #[.int .i32 m] 21)).heap.size := by
          have h1 := Below.size HB.out
          have h2 := Below.size HB1.out
          simp
          omega
        clear hb1 HC HX
        go_wp2_with (first | (at_builtin; refine F.wpl_append (by rfl) (.tmp 16) (.tmp 18) 22 rfl Tryz.underlying22 hi0 hz0 hz1 hz2 rfl (by omega) HO1.out rfl HRD.out rfl rfl (fun e => by cases e) (by simp; omega) hbase ?_; intro v2 w2 hown2 hb2; have HO2 := Lib.hid hown2; have HB2 := Lib.hid hb2; clear hown2 hb2) | fail)
        go_roundw
        case rel =>
          refine ⟨k + 1, by go_num, by rw [HL.out]; omega, Lib.hid ⟨by have h := HNEW.out; simp at h; rw [h]; exact HO2.out, ?_⟩⟩
          have h3 : Bel w (w1.alloc (.cells #[.int .i32 m] 21)) := (HB.out.trans HB1.out).alloc _
          exact Below.trans h3 HB2.out
        case measure => simp [intOf]; omega
    · obtain rfl : k = n := by omega
      have q1 : ¬ (k : Int) < (k : Int) := by omega
      obtain ⟨hown, hbw⟩ := HK.out
      rw [List.take_of_length_le (by rw [HL.out]; omega)] at hown
      have hfne : pf cls l ≠ [] := fun e => by
        obtain ⟨x, hx⟩ := List.exists_mem_of_ne_nil l HNE.out
        obtain ⟨y, hy, _⟩ := (firstOf_ex (cls := cls) (c := cls x) (l := l)).2 (fun e2 => by
          have : x ∈ ofC cls (cls x) l := List.mem_filter.2 ⟨hx, by simp⟩
          rw [e2] at this
          cases this)
        have := (HPM.out y).2 hy
        rw [e] at this
        cases this
      have HSo := Lib.hid (sort_own w.heap.size u3 (pf cls l) wr hown hfne (by have := HP.out; omega))
      have HB := Lib.hid hbw
      clear hown hbw hfne HK
      go_wp2_with fail
      with_reducible refine HSo.out.mono ?_
      rintro e w1 ⟨rfl, G, hp, hs, ho, hb⟩
      have HF : Hid (U.Own w1 w.heap.size 21 .i32 u3 G ∧ G.Pairwise (· < ·) ∧ (∀ m, m ∈ G ↔ FirstOf cls m l) ∧ G.length ≤ l.length ∧ Bel w w1) :=
        Lib.hid ⟨ho, rises HPN.out hp hs, fun m => (hp.mem_iff).trans (HPM.out m), by rw [hp.length_eq, HL.out]; exact HP.out, Below.trans HB.out hb⟩
      clear hp hs ho hb HSo
      go_wp2
      go_ret
      exact ⟨u3, G, rfl, HF.out⟩
end Go.Proofs.YtipigfgnpfhdbaaGreatDoor.K
namespace Go.Proofs.YtipigfgnpfhdbaaGreatDoor.K
open Go.RowKit U F
set_option linter.unusedVariables false

def OutRel (w : World) (base : Nat) (l G : List Int) (vG : Value) (b : Nat) (v i : Value) (wr : World) : Prop :=
  ∃ k : Nat, i = .int .i64 k ∧ k ≤ G.length ∧ Hid (LOwn wr base v ((G.take k).flatMap (begun l)) ∧ U.Own wr base 21 .i32 vG G ∧ Bel w wr ∧
    ∀ m ∈ G.take k, IsOrders cls (l.erase m) (ordersOf (l.erase m)) ∧ (ordersOf (l.erase m)).length ≤ b)
def InRel (w : World) (base : Nat) (P L : List (List Int)) (m : Int) (G : List Int) (vG u : Value) (v i : Value) (wr : World) : Prop :=
  ∃ j : Nat, i = .int .i64 j ∧ j ≤ L.length ∧ Hid (LOwn wr base v (P ++ (L.take j).map (m :: ·)) ∧ U.Own wr base 21 .i32 vG G ∧ LOwn wr base u L ∧ (∀ k, v.ownBlock = some k → u.ownBlock ≠ some k) ∧ Bel w wr)
theorem orders_none (w : World) (A : Option Addr) (c : Nat) : Calls Tryz.prog 26 #[.slice A 0 c] w (OrdersP w []) := by
  go_enter Tryz.func26, Tryz.ntmps26
  go_wp2
  go_ret
  exact ⟨_, [[]], rfl, orders_nil, LOwn.made w (Own.nil _ _ _ _) (Nat.le_refl _), by simp, (Bel.refl w).alloc _⟩

set_option maxRecDepth 100000 in
set_option maxHeartbeats 8000000 in
theorem orders_some (n : Nat) (l : List Int) (A : Option Addr) (c C : Nat) (w : World) (hl : l.length = n + 1) (hn : n ≤ 5) (hr : U.Rd w C .i32 A l) (hS : F.Sp w)
    (IH : ∀ (t : List Int) (A : Option Addr) (c C : Nat) (w : World), t.length = n → U.Rd w C .i32 A t → F.Sp w → Calls Tryz.prog 26 #[.slice A n c] w (OrdersP w t)) :
    Calls Tryz.prog 26 #[.slice A (n + 1 : Nat) c] w (OrdersP w l) := by
  obtain ⟨i0, hi0, hz0, hz1, hz2⟩ := info_parts infoC
  have hne : l ≠ [] := fun e => by rw [e] at hl; simp at hl
  obtain ⟨g0, off0, rfl, _, _⟩ := hr.isSome (by omega)
  have HF := Lib.hid (firsts_is (some ⟨g0, off0, none⟩) (n + 1) c C l w hr hl hne (by omega) hS)
  have HR := Lib.hid hr
  have HS := Lib.hid hS
  have HI := Lib.hid IH
  have HL := Lib.hid (And.intro hl hne)
  have HP7 := Lib.hid (pow7 hn)
  have p0 : ((n + 1 : Nat) : Int) ≠ 0 := by omega
  have p1 : (((n + 1 : Nat) : Int) == 0) = false := by simp; omega
  obtain ⟨n1, hn1⟩ : ∃ n1, n + 1 = n1 := ⟨_, rfl⟩
  rw [hn1] at HF p0 p1 ⊢
  have HN1 := Lib.hid hn1
  clear hr hS IH hl hne hn1
  go_enter Tryz.func26, Tryz.ntmps26
  go_wp2_with fail
  with_reducible refine HF.out.mono ?_
  rintro e w1 ⟨vG, G, rfl, hG1, hG2, hG3, hG4, hG5⟩
  obtain ⟨A1, cap1, rfl, hcap1, hrd1, hA1⟩ := hG1.rd
  have HG := Lib.hid (And.intro hG2 hG3)
  have HGl := Lib.hid hG4
  have H0 : Hid (LOwn w1 w.heap.size (.slice none 0 0) ((G.take 0).flatMap (begun l)) ∧ U.Own w1 w.heap.size 21 .i32 (.slice A1 G.length cap1) G ∧ Bel w w1 ∧
    ∀ m ∈ G.take 0, IsOrders cls (l.erase m) (ordersOf (l.erase m)) ∧ (ordersOf (l.erase m)).length ≤ 7 ^ n) := Lib.hid ⟨by simpa using LOwn.nil _ _, hG1, hG5, fun m hm => by simp at hm⟩
  clear hG1 hG2 hG3 hG4 hG5 hcap1 hrd1 hA1 HF
  go_wp2
  go_loopw [3, 15] (fun v i wr => OutRel w w.heap.size l G (.slice A1 G.length cap1) (7 ^ n) v i wr) (fun v i _ => G.length - (intOf i).toNat)
  case atStart => exact ⟨0, rfl, Nat.zero_le _, H0⟩
  case round =>
    clear H0
    obtain ⟨k, rfl, hk, HK⟩ := hrel
    by_cases hlt : k < G.length
    · obtain ⟨m, hm⟩ : ∃ m, G[k]? = some m := ⟨G[k]'hlt, by simp⟩
      obtain ⟨hLv, hGv, hbw, hall⟩ := HK.out
      obtain ⟨A1', cap1', e1, _, hrd1, _⟩ := hGv.rd
      cases e1
      obtain ⟨g1, off1, rfl, _, hc1⟩ := hrd1 k m hm
      have q0 : (0 : Int) ≤ (k : Int) := by omega
      have q1 : (k : Int) < (G.length : Int) := by omega
      have q2 : (k : Int) < 7 := by have h1 := HGl.out; have h2 := HL.out.1; omega
      have hml : m ∈ l := ((HG.out.2 m).1 (List.mem_of_getElem? hm)).mem
      have hel : (l.erase m).length = n := by rw [List.length_erase_of_mem hml, HL.out.1]; omega
      have HW : Hid (Calls Tryz.prog 48 #[.slice (some ⟨g0, off0, none⟩) n1 c, .slice (some ⟨wr.heap.size, 0, none⟩) 1 1] (wr.alloc (.cells #[.int .i32 m] 21)) (CloneP (wr.alloc (.cells #[.int .i32 m] 21)) (l.erase m))) := Lib.hid
        (without_is (some ⟨g0, off0, none⟩) (some ⟨wr.heap.size, 0, none⟩) n1 c 1 1 C (wr.heap.size + 1) l [m] _ (HR.out.bel (hbw.trans ((Bel.refl wr).alloc _))) (by rw [HL.out.1]; exact HN1.out) (by have := HN1.out; omega) (fun e => by cases e) (F.rd_lit rfl) rfl (by omega))
      have HV := Lib.hid hLv
      have HVG := Lib.hid hGv
      have HB := Lib.hid hbw
      have HALL := Lib.hid hall
      have HM := Lib.hid hm
      have HEL := Lib.hid hel
      clear hm hLv hGv hbw hall hrd1 hml hel HK
      go_wp2_with fail
      with_reducible refine HW.out.mono ?_
      rintro e w2 ⟨v2, rfl, ho2, hb2⟩
      obtain ⟨A2, cap2, rfl, _, hrd2, _⟩ := ho2.rdn HEL.out
      have hbr2 : Bel wr w2 := ((Bel.refl wr).alloc _).trans hb2
      have HO := Lib.hid (HI.out (l.erase m) A2 cap2 _ w2 HEL.out hrd2 (HS.out.by (HB.out.trans hbr2)))
      have HB2 := Lib.hid hbr2
      clear ho2 hb2 hrd2 hbr2 HW
      go_wp2_with fail
      with_reducible refine HO.out.mono ?_
      rintro e w3 ⟨u, L, rfl, hL1, hL2, hL3, hb3⟩
      obtain ⟨A3, cap3, rfl, _, _, _⟩ := hL2.rd
      have h23 := Below.size HB2.out
      have h02 := Below.size HB.out
      rw [HEL.out] at hL3
      have HL1 := Lib.hid (And.intro hL1 hL3)
      have H1 : Hid (LOwn w3 w.heap.size u3 ((G.take k).flatMap (begun l) ++ (L.take 0).map (m :: ·)) ∧ U.Own w3 w.heap.size 21 .i32 (.slice (some ⟨g1, off1, none⟩) G.length cap1) G ∧ LOwn w3 w.heap.size (.slice A3 L.length cap3) L ∧
          (∀ k, u3.ownBlock = some k → (Value.slice A3 L.length cap3).ownBlock ≠ some k) ∧ Bel w w3) := Lib.hid
        ⟨by simpa using HV.out.keep (HB2.out.trans hb3), HVG.out.keep (HB2.out.trans hb3), hL2.less (by omega), fun kk h1 h2 => by
          have h4 := (HV.out.lt kk h1).2
          have h5 := (hL2.lt kk h2).1
          omega, (HB.out.trans HB2.out).trans hb3⟩
      clear hL1 hL2 hL3 hb3 h23 h02 HO
      go_wp2
      go_loopw [3, 25] (fun v i wi => InRel w w.heap.size ((G.take k).flatMap (begun l)) L m G (.slice (some ⟨g1, off1, none⟩) G.length cap1) (.slice A3 L.length cap3) v i wi) (fun v i _ => L.length - (intOf i).toNat)
      case atStart => exact ⟨0, rfl, Nat.zero_le _, H1⟩
      case round =>
        clear H1
        obtain ⟨j, rfl, hj, HJ⟩ := hrel
        by_cases hjt : j < L.length
        · obtain ⟨o, ho⟩ : ∃ o, L[j]? = some o := ⟨L[j]'hjt, by simp⟩
          obtain ⟨hJv, hJG, hJu, hJd, hJb⟩ := HJ.out
          obtain ⟨A3', cap3', e3, _, _, hcell⟩ := hJu.rd
          cases e3
          obtain ⟨g3, uo, rfl, hco, hOo⟩ := hcell j o ho
          obtain ⟨Ao, capo, rfl, hcapo, hro, hAo⟩ := hOo.rd
          have hol : o.length ≤ 6 := by
            have h1 := ((HL1.out.1.2 o).1 (List.mem_of_getElem? ho)).len
            rw [HEL.out] at h1
            omega
          have r0 : (0 : Int) ≤ (j : Int) := by omega
          have r1 : (j : Int) < (L.length : Int) := by omega
          have r2 : (j : Int) < 16808 := by have h1 := HL1.out.2; have h2 := HP7.out; omega
          have hPl : ((G.take k).flatMap (begun l) ++ (L.take j).map (m :: ·)).length + 1 ≤ 1000000 := by
            have h1 := begun_len (l := l) (G := G.take k) (b := 7 ^ n) fun x hx => (HALL.out x hx).2
            have h2 := HL1.out.2
            have h3 := HP7.out
            have h4 : (G.take k).length * 7 ^ n ≤ 7 * 16807 := Nat.mul_le_mul (by have := HGl.out; have := HL.out.1; rw [List.length_take]; omega) h3
            rw [List.length_append, List.length_map, List.length_take]
            omega
          have hbase : w.heap.size ≤ wr.heap.size := Below.size hJb
          have HA1 := Lib.hid (U.Own.lit wr 21 .i32 (cs := #[.int .i32 m]) (l := [m]) (n := 1) rfl rfl (by omega))
          have HA2 := Lib.hid (hro.bel ((Bel.refl wr).alloc (.cells #[.int .i32 m] 21)))
          have HV2 := Lib.hid (And.intro hJv (And.intro hJG (And.intro hJu (And.intro hJd hJb))))
          have HOl := Lib.hid ho
          have HPl := Lib.hid hPl
          have HBase := Lib.hid hbase
          have HAo := Lib.hid hAo
          obtain ⟨q, hq⟩ : ∃ q, ([m] ++ o).length = q := ⟨_, rfl⟩
          have HQ := Lib.hid hq
          have hol2 : o.length + 1 ≤ 100 := by omega
          clear hJv hJG hJu hJd hJb hcell hOo hro hAo ho hPl hbase hol HJ hcapo hq
          go_wp2_with (first
            | (at_builtin; refine F.wpl_append (by rfl) (.tmp 31) (.tmp 32) 22 rfl Tryz.underlying22 hi0 hz0 hz1 hz2 rfl (by omega) HA1.out rfl HA2.out rfl rfl HAo.out (by simp; omega) (by simp) ?_
               intro v4 w4 hown4 hb4
               obtain ⟨A4, cap4, rfl, _, _, _⟩ := hown4.rdn HQ.out
               have hb14 : Bel wr w4 := Below.trans ((Bel.refl wr).alloc (.cells #[.int .i32 m] 21)) hb4
               have hb15 : Bel wr (w4.alloc (.cells #[(Value.slice A4 q cap4)] 22)) := hb14.alloc _
               have hc4 : (w4.alloc (.cells #[(Value.slice A4 q cap4)] 22)).cell? ⟨w4.heap.size, 0, none⟩ = some (Value.slice A4 q cap4) := F.cell_box w4 (Value.slice A4 q cap4) 22
               have HO4 := Lib.hid ((hown4.keep ((Bel.refl w4).alloc (.cells #[(Value.slice A4 q cap4)] 22))).less HBase.out)
               have HB15 := Lib.hid hb15
               have HV4 := Lib.hid (HV2.out.1.keep hb15)
               have hs4 : w.heap.size ≤ (w4.alloc (.cells #[(Value.slice A4 q cap4)] 22)).heap.size := Nat.le_trans HBase.out (Below.size hb15)
               clear hown4 hb4 hb14 hb15)
            | (at_builtin; refine wpl_append_l (by rfl) (.tmp 29) (.tmp 34) rfl HV4.out rfl rfl hc4 HO4.out HPl.out hs4 ?_
               intro v6 w6 hown6 hb6 hgr6 hbl6
               have H6 := Lib.hid (And.intro hown6 (And.intro hb6 (And.intro hgr6 hbl6)))
               clear hown6 hb6 hgr6 hbl6)
            | fail)
          go_roundw
          case rel =>
            obtain ⟨k1, k2, k3, k4⟩ := H6.out
            obtain ⟨i1, i2, i3, i4, i5⟩ := HV2.out
            have hrow := HV4.out.row
            refine ⟨j + 1, by go_num, by omega, Lib.hid ⟨?_, own_grown (i2.keep HB15.out) k3 hrow, (i3.keep HB15.out).grown k3 hrow i4, fun kk h1 h2 => ?_, Below.trans (i5.trans HB15.out) k2⟩⟩
            · rw [List.take_add_one, HOl.out, Option.toList_some, List.map_append, ← List.append_assoc]
              exact k1
            · rcases k4 with e | e
              · exact i4 kk (e ▸ h1) h2
              · have h3 := ((i3.keep HB15.out).lt kk h2).2
                rw [e] at h1
                cases h1
                omega
          case measure => simp [intOf]; omega
        · obtain rfl : j = L.length := by omega
          have r1 : ¬ (L.length : Int) < (L.length : Int) := by omega
          obtain ⟨i1, i2, i3, i4, i5⟩ := HJ.out
          have ht : (G.take (k + 1)).flatMap (begun l) = (G.take k).flatMap (begun l) ++ (L.take L.length).map (m :: ·) := by
            rw [List.take_add_one, HM.out, Option.toList_some, List.flatMap_append, List.take_length]
            congr 1
            rw [List.flatMap_cons, List.flatMap_nil, List.append_nil]
            unfold begun
            rw [ordersOf_is HL1.out.1]
          have H7 : Hid (LOwn wr w.heap.size u3 ((G.take (k + 1)).flatMap (begun l)) ∧ U.Own wr w.heap.size 21 .i32 (.slice (some ⟨g1, off1, none⟩) G.length cap1) G ∧ Bel w wr ∧
              ∀ x ∈ G.take (k + 1), IsOrders cls (l.erase x) (ordersOf (l.erase x)) ∧ (ordersOf (l.erase x)).length ≤ 7 ^ n) := Lib.hid ⟨by rw [ht]; exact i1, i2, i5, fun x hx => by
            rw [List.take_add_one, HM.out, Option.toList_some, List.mem_append] at hx
            rcases hx with h | h
            · exact HALL.out x h
            · simp at h
              subst h
              rw [ordersOf_is HL1.out.1]
              exact HL1.out⟩
          clear i1 i2 i3 i4 i5 ht HJ
          go_wp2
          go_roundw
          case rel => exact ⟨k + 1, by go_num, by omega, H7⟩
          case measure => simp [intOf]; omega
    · obtain rfl : k = G.length := by omega
      have q1 : ¬ (G.length : Int) < (G.length : Int) := by omega
      obtain ⟨hLv, hGv, hbw, hall⟩ := HK.out
      rw [List.take_length] at hLv hall
      have HE : Hid (IsOrders cls l (G.flatMap (begun l)) ∧ LOwn wr w.heap.size u3 (G.flatMap (begun l)) ∧ (G.flatMap (begun l)).length ≤ 7 ^ l.length ∧ Bel w wr) := Lib.hid ⟨orders_step HL.out.2 HG.out.1 HG.out.2 fun m hm => (hall m hm).1, hLv, by
        have h1 := begun_len (l := l) (G := G) (b := 7 ^ n) fun m hm => (hall m hm).2
        have h2 : G.length * 7 ^ n ≤ 7 * 7 ^ n := Nat.mul_le_mul_right _ (by have := HGl.out; have := HL.out.1; omega)
        rw [HL.out.1, Nat.pow_succ]
        omega, hbw⟩
      clear hLv hGv hbw hall HK
      go_wp2
      go_ret
      exact ⟨u3, _, rfl, HE.out⟩
theorem orders_is : ∀ (n : Nat) (l : List Int) (A : Option Addr) (c C : Nat) (w : World), l.length = n → n ≤ 6 → U.Rd w C .i32 A l → F.Sp w → Calls Tryz.prog 26 #[.slice A n c] w (OrdersP w l) := by
  intro n
  induction n with
  | zero =>
    intro l A c C w hl _ _ _
    obtain rfl := List.eq_nil_of_length_eq_zero hl
    exact orders_none w A c
  | succ n ih => exact fun l A c C w hl hn hr hS => orders_some n l A c C w hl (by omega) hr hS fun t A c C w ht hr hS => ih t A c C w ht (by omega) hr hS
end Go.Proofs.YtipigfgnpfhdbaaGreatDoor.K
namespace Go.Proofs.YtipigfgnpfhdbaaGreatDoor.K
open Go.RowKit U F
set_option linter.unusedVariables false

def AllP (w : World) (l : List Int) (e : Ending) (w' : World) : Prop :=
  (l.length ≤ 6 ∧ (∀ x ∈ l, 0 < cls x) ∧ OrdersP w l e w') ∨ (¬ (l.length ≤ 6 ∧ ∀ x ∈ l, 0 < cls x) ∧ e = .returned (.slice none 0 0) ∧ Bel w w')
theorem OrdersP.after {w w1 w' : World} {l : List Int} {e : Ending} (h : OrdersP w1 l e w') (hb : Bel w w1) : OrdersP w l e w' := by
  obtain ⟨v, L, rfl, h1, h2, h3, h4⟩ := h
  exact ⟨v, L, rfl, h1, h2.less (Below.size hb), h3, hb.trans h4⟩
set_option maxRecDepth 100000 in
set_option maxHeartbeats 4000000 in
theorem all_is (A : Option Addr) (n c C : Nat) (l : List Int) (w : World) (hl : l.length = n) (hn : n ≤ 1000) (hr : U.Rd w C .i32 A l) (hS : F.Sp w) :
    Calls Tryz.prog 11 #[.slice A n c] w (AllP w l) := by
  have HC := Lib.hid (count_marks A n c C l w hr hl (by omega) hS)
  have HO : Hid (n ≤ 6 → ∀ w', Bel w w' → Calls Tryz.prog 26 #[.slice A n c] w' (OrdersP w' l)) := Lib.hid fun h w' hb => orders_is n l A c C w' hl h (hr.bel hb) (hS.by hb)
  have HL := Lib.hid hl
  clear hr hS hl
  by_cases h6 : n ≤ 6
  · have q0 : ¬ (6 : Int) < (n : Int) := by omega
    go_enter Tryz.func11, Tryz.ntmps11
    go_wp2_with fail
    with_reducible refine HC.out.mono ?_
    rintro e w1 ⟨k, rfl, hk, HK, hg⟩
    rw [HL.out] at hk
    have HB := Lib.hid hg.bel
    clear HC hg
    by_cases hkn : k < n
    · have q1 : (k : Int) < (n : Int) := by omega
      go_wp2
      go_ret
      refine .inr ⟨fun h => ?_, rfl, HB.out⟩
      obtain ⟨x, hx⟩ : ∃ x, l[k]? = some x := ⟨l[k]'(by rw [HL.out]; exact hkn), by simp⟩
      have h1 := h.2 x (List.mem_of_getElem? hx)
      have h2 := HK.out.2 x hx
      omega
    · obtain rfl : k = n := by omega
      have q1 : ¬ (k : Int) < (k : Int) := by omega
      go_wp2_with fail
      with_reducible refine (HO.out h6 w1 HB.out).mono ?_
      rintro e w2 ⟨v, L, rfl, h1, h2, h3, h4⟩
      have HP := Lib.hid (OrdersP.after ⟨v, L, rfl, h1, h2, h3, h4⟩ HB.out)
      clear h1 h2 h3 h4 HO
      go_wp2
      go_ret
      refine .inl ⟨by rw [HL.out]; exact h6, fun x hx => ?_, HP.out⟩
      obtain ⟨i, hi, rfl⟩ := List.mem_iff_getElem.1 hx
      exact HK.out.1 i _ (by rw [← HL.out]; exact hi) (List.getElem?_eq_getElem hi)
  · have q0 : (6 : Int) < (n : Int) := by omega
    go_enter Tryz.func11, Tryz.ntmps11
    go_wp2
    go_ret
    exact .inr ⟨fun h => h6 (by rw [← HL.out]; exact h.1), rfl, Bel.refl _⟩
end Go.Proofs.YtipigfgnpfhdbaaGreatDoor.K
namespace Go.Proofs.YtipigfgnpfhdbaaGreatDoor.K
open Go.RowKit U F
set_option linter.unusedVariables false

/-- A list's row is left by what is written into a row of lists. -/
theorem own_setl {w : World} {base g i : Nat} {u z : Value} {l : List Int} (h : U.Own w base 21 .i32 u l) {cur : Array Value} (hg : w.heap[g]? = some (.cells cur 22 (0, 0))) : U.Own (w.setCell ⟨g, i, none⟩ z) base 21 .i32 u l := by
  unfold U.Own at h ⊢
  refine ⟨h.1, ?_⟩
  rcases h.2 with h | ⟨k, cap, cu, hv, hbg, hgg, rest⟩
  · exact .inl h
  · refine .inr ⟨k, cap, cu, hv, hbg, ?_, rest⟩
    have hne : g ≠ k := fun e => by
      subst e
      have h3 := Option.some.inj (hg.symm.trans hgg)
      injection h3 with _ h4 _
      exact absurd h4 (by decide)
    simp [World.setCell, Array.getElem?_modify, hne, hgg]
theorem LOwn.form {w : World} {base n cap : Nat} {A : Option Addr} {L : List (List Int)} (h : LOwn w base (.slice A n cap) L) (hn : 0 < n) :
    L.length = n ∧ n ≤ cap ∧ ∃ g, A = some ⟨g, 0, none⟩ ∧ base ≤ g ∧ g < w.heap.size ∧ ∃ cur : Array Value, w.heap[g]? = some (.cells cur 22 (0, 0)) ∧ cur.size = cap ∧ ∀ (i : Nat) (l : List Int), L[i]? = some l → ∃ u, cur[i]? = some u ∧ U.Own w base 21 .i32 u l := by
  obtain ⟨vs, h1, h2⟩ := h
  rcases h1.2 with ⟨he, h0⟩ | ⟨g, c, cur, he, hb, hg, hc, hm, hs, ht⟩
  · cases he; omega
  · simp only [Value.slice.injEq] at he
    obtain ⟨rfl, rfl, rfl⟩ := he
    refine ⟨rfl, hc, g, rfl, hb, (Array.getElem?_eq_some_iff.1 hg).1, cur, hg, by simpa using hs, fun i l hl => ?_⟩
    obtain ⟨u, hu, ho⟩ := h2 i l hl
    refine ⟨u, ?_, ho⟩
    have hil := (List.getElem?_eq_some_iff.1 hl).1
    have h3 : (cur.toList.take (L.length * 1))[i]? = some u := by rw [ht]; exact hu
    rw [List.getElem?_take, if_pos (by omega)] at h3
    rw [← Array.getElem?_toList]
    exact h3
theorem LOwn.cell {w : World} {base n cap g : Nat} {L : List (List Int)} (h : LOwn w base (.slice (some ⟨g, 0, none⟩) n cap) L) {i : Nat} {l : List Int} (hl : L[i]? = some l) :
    ∃ u, w.cell? ⟨g, i, none⟩ = some u ∧ w.frozen? ⟨g, i, none⟩ = false ∧ U.Own w base 21 .i32 u l := by
  have hil := (List.getElem?_eq_some_iff.1 hl).1
  have hn : L.length = n := by obtain ⟨A, c, he, _⟩ := h.rd; simp only [Value.slice.injEq] at he; omega
  obtain ⟨_, _, g', e, _, _, cur, hg, _, h2⟩ := h.form (by omega)
  simp only [Option.some.injEq, Addr.mk.injEq, and_true] at e
  subst e
  obtain ⟨u, hu, ho⟩ := h2 i l hl
  refine ⟨u, ?_, ?_, ho⟩
  · rw [cell_of hg]; exact hu
  · rw [frozen_of hg]; simp
theorem LOwn.set {w : World} {base n cap g : Nat} {L : List (List Int)} (h : LOwn w base (.slice (some ⟨g, 0, none⟩) n cap) L) {i : Nat} {u : Value} {l : List Int} (hi : i < n) (hu : U.Own w base 21 .i32 u l) :
    LOwn (w.setCell ⟨g, i, none⟩ u) base (.slice (some ⟨g, 0, none⟩) n cap) (L.set i l) ∧ base ≤ g ∧ ∀ z b, U.Own w base 21 .i32 z b → U.Own (w.setCell ⟨g, i, none⟩ u) base 21 .i32 z b := by
  have hL : L.length = n := by obtain ⟨A, c, he, _⟩ := h.rd; simp only [Value.slice.injEq] at he; omega
  obtain ⟨vs, h1, h2⟩ := h
  have hvl : vs.length = L.length := by simpa using h1.1
  rcases h1.2 with ⟨he, h0⟩ | ⟨g', c, cur, he, hb, hg, hc, hm, hs, ht⟩
  · cases he
  · simp only [Value.slice.injEq, Option.some.injEq, Addr.mk.injEq, and_true] at he
    obtain ⟨rfl, hn, rfl⟩ := he
    refine ⟨⟨vs.set i u, ⟨by simpa using hvl, .inr ⟨g, cap, cur.setIfInBounds i u, by rw [List.length_set, hn], hb, by simp [World.setCell, Array.getElem?_modify, hg], by rw [List.length_set]; exact hc, hm, by simpa using hs, ?_⟩⟩, fun j x hx => ?_⟩, hb, fun z b hz => own_setl hz hg⟩
    · apply List.ext_getElem?
      intro j
      rw [List.getElem?_take, List.length_set]
      by_cases hj : j < L.length * 1
      · have h3 : (cur.toList.take (L.length * 1))[j]? = vs[j]? := by rw [ht]
        rw [List.getElem?_take, if_pos hj, Array.getElem?_toList] at h3
        rw [if_pos hj, Array.getElem?_toList, Array.getElem?_setIfInBounds, List.getElem?_set, h3]
        by_cases e : i = j
        · subst e
          have h5 : i < cur.size := by omega
          rw [if_pos rfl, if_pos rfl, if_pos h5, if_pos (by omega)]
        · rw [if_neg e, if_neg e]
      · rw [if_neg hj, List.getElem?_eq_none (by rw [List.length_set]; omega)]
    · rw [List.getElem?_set] at hx
      by_cases e : i = j
      · subst e
        rw [if_pos rfl, if_pos (by omega)] at hx
        obtain rfl := Option.some.inj hx
        exact ⟨u, by rw [List.getElem?_set, if_pos rfl, if_pos (by omega)], own_setl hu hg⟩
      · rw [if_neg e] at hx
        obtain ⟨z, hz, ho⟩ := h2 j x hx
        exact ⟨z, by rw [List.getElem?_set, if_neg e]; exact hz, own_setl ho hg⟩
end Go.Proofs.YtipigfgnpfhdbaaGreatDoor.K
namespace Go.Proofs.YtipigfgnpfhdbaaGreatDoor.K
set_option linter.unusedVariables false

/-- None behind is less. -/
abbrev SrL (l : List (List Int)) : Prop := l.Pairwise fun a b => lessL b a = false
theorem le_trans : ∀ {a b c : List Int}, a.length = b.length → b.length = c.length → lessL b a = false → lessL c b = false → lessL c a = false
  | [], _, c, _, _, _, _ => by cases c <;> rfl
  | _ :: _, [], _, h, _, _, _ => by simp at h
  | _ :: _, _ :: _, [], _, h, _, _ => by simp at h
  | x :: a, y :: b, z :: c, h1, h2, h3, h4 => by
    unfold lessL at h3 h4 ⊢
    by_cases e1 : y = x
    · subst e1
      by_cases e2 : z = y
      · subst e2
        rw [if_pos rfl] at h3 h4 ⊢
        exact le_trans (by simpa using h1) (by simpa using h2) h3 h4
      · rw [if_neg e2] at h4 ⊢
        exact h4
    · rw [if_neg e1] at h3
      by_cases e2 : z = y
      · subst e2
        rw [if_neg e1]
        exact h3
      · rw [if_neg e2] at h4
        simp only [decide_eq_false_iff_not] at h3 h4
        rw [if_neg (by omega)]
        simp only [decide_eq_false_iff_not]
        omega
/-- x stands at k, behind P; those of S, behind it, are all greater; P and S are sorted. -/
def Ins (L0 : List (List Int)) (i k : Nat) (L : List (List Int)) : Prop :=
  L.Perm L0 ∧ ∃ P x S R, L = P ++ x :: (S ++ R) ∧ P.length = k ∧ k + S.length = i ∧ SrL (P ++ S) ∧ ∀ s ∈ S, lessL x s = true
theorem ins_start {L0 L : List (List Int)} {i : Nat} (hp : L.Perm L0) (hi : i < L.length) (hs : SrL (L.take i)) : Ins L0 i i L := by
  refine ⟨hp, L.take i, L[i], [], L.drop (i + 1), ?_, by rw [List.length_take]; omega, rfl, by simpa using hs, fun s h => by cases h⟩
  rw [List.nil_append, ← List.drop_eq_getElem_cons hi, List.take_append_drop]
theorem Ins.len {L0 L : List (List Int)} {i k : Nat} (h : Ins L0 i k L) : L.length = L0.length ∧ k ≤ i ∧ i < L.length := by
  obtain ⟨hp, P, x, S, R, rfl, h1, h2, _, _⟩ := h
  refine ⟨hp.length_eq, by omega, ?_⟩
  simp only [List.length_append, List.length_cons]
  omega
theorem at_k (P : List (List Int)) (x : List Int) (T : List (List Int)) : (P ++ x :: T)[P.length]? = some x := by simp
theorem ins_step {L0 L : List (List Int)} {i k : Nat} {a b : List Int} (h : Ins L0 i (k + 1) L) (ha : L[k + 1]? = some a) (hb : L[k]? = some b) (hl : lessL a b = true) : Ins L0 i k ((L.set (k + 1) b).set k a) := by
  obtain ⟨hp, P, x, S, R, rfl, h1, h2, h3, h4⟩ := h
  rcases List.eq_nil_or_concat P with rfl | ⟨P, y, rfl⟩
  · simp at h1
  rw [List.concat_eq_append] at *
  have hk : P.length = k := by simpa using h1
  subst hk
  have e1 : a = x := by
    have h := at_k (P ++ [y]) x (S ++ R)
    rw [h1] at h
    exact Option.some.inj (ha.symm.trans h)
  have e2 : b = y := by
    have h := at_k P y (x :: (S ++ R))
    rw [List.append_assoc] at hb
    exact Option.some.inj (hb.symm.trans h)
  subst e1 e2
  have e3 : ((P ++ [b] ++ a :: (S ++ R)).set (P.length + 1) b).set P.length a = P ++ a :: ((b :: S) ++ R) := by
    simp
  refine ⟨?_, P, a, b :: S, R, e3, rfl, by simpa [Nat.add_assoc, Nat.add_comm 1] using h2, by simpa using h3, fun s hs => ?_⟩
  · rw [e3]
    refine List.Perm.trans ?_ hp
    simp only [List.append_assoc, List.cons_append, List.nil_append]
    exact List.Perm.append_left P (List.Perm.swap b a (S ++ R))
  · rcases List.mem_cons.1 hs with rfl | h
    · exact hl
    · exact h4 s h
theorem ins_end {L0 L : List (List Int)} {i k n : Nat} (h : Ins L0 i k L) (hn : ∀ a ∈ L0, a.length = n) (he : ∀ j a b, k = j + 1 → L[j + 1]? = some a → L[j]? = some b → lessL a b = false) : L.Perm L0 ∧ SrL (L.take (i + 1)) := by
  obtain ⟨hp, P, x, S, R, rfl, h1, h2, h3, h4⟩ := h
  refine ⟨hp, ?_⟩
  have ht : (P ++ x :: (S ++ R)).take (i + 1) = P ++ x :: S := by
    rw [show P ++ x :: (S ++ R) = (P ++ x :: S) ++ R by simp]
    exact List.take_left' (by simp; omega)
  have hlen : ∀ a ∈ P ++ x :: (S ++ R), a.length = n := fun a ha => hn a (hp.mem_iff.1 ha)
  rw [ht]
  unfold SrL at h3 ⊢
  rw [List.pairwise_append] at h3 ⊢
  obtain ⟨p1, p2, p3⟩ := h3
  refine ⟨p1, List.pairwise_cons.2 ⟨fun s hs => lessL_asymm (h4 s hs), p2⟩, fun p hm s hs => ?_⟩
  rcases List.mem_cons.1 hs with rfl | h
  · rcases List.eq_nil_or_concat P with rfl | ⟨P', y, rfl⟩
    · cases hm
    rw [List.concat_eq_append] at *
    have hy : lessL s y = false := by
      have e := at_k (P' ++ [y]) s (S ++ R)
      rw [List.length_append, List.length_singleton] at e
      have e2 := at_k P' y (s :: (S ++ R))
      refine he P'.length s y (by simpa using h1.symm) e ?_
      rw [List.append_assoc]
      exact e2
    rcases List.mem_append.1 hm with hp' | hp'
    · have hpy : lessL y p = false := (List.pairwise_append.1 p1).2.2 p hp' y (by simp)
      have l1 := hlen p (by simp [hp'])
      have l2 := hlen y (by simp)
      have l3 := hlen s (by simp)
      exact le_trans (by omega) (by omega) hpy hy
    · simp at hp'
      subst hp'
      exact hy
  · exact p3 p hm s h
end Go.Proofs.YtipigfgnpfhdbaaGreatDoor.K
namespace Go.Proofs.YtipigfgnpfhdbaaGreatDoor.K
open Go.RowKit U F
set_option linter.unusedVariables false

theorem lessL_at : ∀ (a b : List Int) (k : Nat) (x y : Int), a.take k = b.take k → a[k]? = some x → b[k]? = some y → x ≠ y → lessL a b = decide (x < y)
  | [], _, k, x, y, _, h, _, _ => by simp at h
  | _ :: _, [], k, x, y, _, _, h, _ => by simp at h
  | u :: a, v :: b, 0, x, y, _, h1, h2, hne => by
    simp at h1 h2
    subst h1 h2
    simp [lessL, hne]
  | u :: a, v :: b, k + 1, x, y, h, h1, h2, hne => by
    simp at h h1 h2
    obtain ⟨rfl, h⟩ := h
    simp only [lessL, if_true]
    exact lessL_at a b k x y h h1 h2 hne
set_option maxHeartbeats 2000000 in
theorem less_is (A B : Option Addr) (n c d : Nat) (xs ys : List Int) (B1 B2 : Nat) (w : World) (hA : U.Rd w B1 .i32 A xs) (hB : U.Rd w B2 .i32 B ys) (hn : xs.length = n) (hm : ys.length = n) (hn' : n ≤ 1099511627776) :
    Calls Tryz.prog 28 #[.slice A n c, .slice B n d] w (Quiet w (lessL xs ys)) := by
  have HN := Lib.hid hn
  have HM := Lib.hid hm
  have HA := Lib.hid hA
  have HB := Lib.hid hB
  clear hn hm hA hB
  go_enter Tryz.func28, Tryz.ntmps28
  go_wp2
  go_loopw [5] (fun i wr => SameRel w xs ys i wr) (fun i _ => n - (intOf i).toNat)
  case atStart => exact ⟨0, 0, rfl, Nat.zero_le _, rfl, by simp⟩
  case round =>
    obtain ⟨k, q, rfl, hk, rfl, heq⟩ := hrel
    rw [HN.out] at hk
    have HE := Lib.hid heq
    clear heq
    by_cases hlt : k < n
    · obtain ⟨x, hx⟩ : ∃ x, xs[k]? = some x := ⟨xs[k]'(by rw [HN.out]; exact hlt), by simp⟩
      obtain ⟨y, hy⟩ : ∃ y, ys[k]? = some y := ⟨ys[k]'(by rw [HM.out]; exact hlt), by simp⟩
      obtain ⟨g1, o1, rfl, hg1, hc1⟩ := HA.out k x hx
      obtain ⟨g2, o2, rfl, hg2, hc2⟩ := HB.out k y hy
      have HX := Lib.hid hx
      have HY := Lib.hid hy
      clear hx hy
      have hi1 : (0 : Int) ≤ (k : Int) := by omega
      have hi2 : (k : Int) < (n : Int) := by omega
      by_cases hxy : x = y
      · subst hxy
        have hne : (x != x) = false := by simp
        go_wp2
        go_quiet (fail)
        go_wp2
        go_roundw
        case rel => exact ⟨k + 1, _, by go_num, by rw [HN.out]; omega, rfl, take_more HE.out HX.out HY.out⟩
        case measure => simp [intOf]; omega
      · have hne : (x != y) = true := by simpa using hxy
        have HD := Lib.hid (lessL_at xs ys k x y HE.out HX.out HY.out hxy)
        go_wp2
        go_quiet (fail)
        go_wp2
        go_quiet (fail)
        go_wp2
        go_ret
        exact ⟨by rw [HD.out]; rfl, _, by rw [World.drewN_drewN, World.drewN_drewN]⟩
    · have hd : lessL xs ys = false := by
        have h1 := HE.out
        obtain rfl : k = n := by omega
        rw [List.take_of_length_le (by rw [HN.out]; omega), List.take_of_length_le (by rw [HM.out]; omega)] at h1
        rw [h1, lessL_irrefl]
      have HD := Lib.hid hd
      clear hd
      go_wp2
      go_ret
      exact ⟨by rw [HD.out]; rfl, _, rfl⟩
end Go.Proofs.YtipigfgnpfhdbaaGreatDoor.K
