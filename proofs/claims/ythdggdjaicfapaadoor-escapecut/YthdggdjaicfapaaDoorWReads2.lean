/- EscapeReads's walk. -/
import Derived.Test.YthdggdjaicfapaaDoorWReads1
namespace Go.Proofs.YthdggdjaicfapaaDoor.U
open Go.RowKit
set_option linter.unusedVariables false

section
variable {P : Program} {w : World}
theorem wpl_copy {ops : Array Oper} {rest : List Oper} {o : Oper} {a : Act} {Q : Exit → Act → World → Prop} (hw : Region.wanted o (yielded ops a.tmps) = true) (s x : Operand) (t : TypeId)
    (ho : o.op = .call { callee := .builtin .append, args := #[s, x], argTypes := #[t, t] })
    {e : TypeId} {i : TypeInfo} {z : Value} {bytes : Nat} (ht : P.underlying t = some (.slice e)) (hi : P.info? e = some i) (hz : i.zero = some z)
    (hsize : i.size = 1) (hby : i.bytes = bytes) (hzs : z.cells.size = 1) (hb8 : bytes ≤ 8) (g : Nat)
    {k : IntKind} {B : Nat} {A : Option Addr} {m c : Nat} {ys : List Int} (hs : a.eval s = .slice (some ⟨g, 0, none⟩) 0 0) (hr : Rd w B k A ys) (hx : a.eval x = .slice A m c) (hm : ys.length = m) (hn : m ≤ 100000)
    (h : ∀ A' c' w', Rd w' w'.heap.size k A' ys → m ≤ c' → Bel w w' → wpList P ops Q rest (a.put o.dst (.slice A' m c')) w') : wpList P ops Q (o :: rest) a w :=
  BigFrame.wpList_want hw fun _ hK => by
    obtain ⟨A', c', w', hrun, h1, h2, h3⟩ := run_copy (P := P) (ty := o.type) (c := c) ht hi hz hsize hby hzs hb8 g hr hm hn
    unfold Oper.wp execOp
    simp only [ho, resolve, invoke, builtin, Sem.run_bind, Sem.run_pure, Result.andThen_ok, List.map_toArray, List.map_cons, List.map_nil, hs, hx, hrun]
    exact hK _ _ (h A' c' w' h1 h2 h3)
end

set_option maxRecDepth 100000 in
set_option maxHeartbeats 8000000 in
theorem reads_walk (A : Option Addr) (n c : Nat) (l : List Int) (z s0 s1 x0 x1 : Int) (N : Nat) (e0 e1 : Int) (w : World) (hT : Tb w) (hA : Rd w w.heap.size .u8 A l) (hn : l.length = n) (hc : n ≤ c) (h0 : A = none → c = 0) (hb : ∀ x ∈ l, 0 ≤ x ∧ x < 256) (ho : Outs l z s0 s1 x0 x1 N e0 e1) (hle : n ≤ 1000) :
    Calls Tryd.prog 3 #[.slice A n c, .int .i64 z, .agg #[.int .i64 s0, .int .i64 s1]] w fun e w' => e = .returned (.bool true) ∧ Bel w w' := by
  obtain ⟨i0, hi0, hz0, hz1, hz2⟩ := info_parts info5
  have q0 : ¬ (1000 : Int) < (n : Int) := by omega
  have HT := Lib.hid hT
  have HA := Lib.hid hA
  have HN := Lib.hid hn
  have HB := Lib.hid hb
  have HO := Lib.hid ho
  have H2 := Lib.hid (Two.new w 24 s0 s1)
  have HBW : Hid (Bel w (w.alloc (.cells #[.int .i64 s0, .int .i64 s1] 24))) := Lib.hid ((Bel.refl w).alloc _)
  clear hT hA hn hb ho
  go_enter Tryd.func3, Tryd.ntmps3
  go_wp2_with fail
  generalize hW : w.alloc (.cells #[.int .i64 s0, .int .i64 s1] 24) = W at H2 HBW ⊢
  clear hW
  refine R.region_inv (by kernel_rfl) (by kernel_rfl) (fun L a u => ∃ V, a = rF w A n c z s0 s1 V ∧ rJ W A n c l z s0 s1 x0 x1 N e0 e1 L V u) ⟨fun _ => undef, rfl, (Bel.refl W).drew, (fun j h => by cases h), (fun h => by cases h), (fun h => by cases h), (fun h => by cases h)⟩ ?_ ?_
  · intro i hi L a u hJ hL hd
    obtain ⟨V, rfl, hJ⟩ := hJ
    have HJ := Lib.hid hJ
    have hbu : Hid (Bel W u) := Lib.hid hJ.1
    have hphi := Lib.hid hJ.2.1
    clear hJ
    have : i = 0 ∨ i = 1 ∨ i = 2 ∨ i = 3 ∨ i = 4 ∨ i = 5 ∨ i = 6 ∨ i = 7 ∨ i = 8 ∨ i = 9 ∨ i = 10 ∨ i = 11 ∨ i = 12 ∨ i = 13 ∨ i = 14 := by
      have : i < 15 := hi
      omega
    rcases this with rfl | rfl | rfl | rfl | rfl | rfl | rfl | rfl | rfl | rfl | rfl | rfl | rfl | rfl | rfl
    · skip
      clear hd hi
      refine R.op_of_list rfl ?_
      unfold rF
      go_wp2
      exact ⟨upd V 0 (.slice (some ⟨u.heap.size, 0, none⟩) 0 0), by simp [upd], rj_step 0 _ (by decide) (by decide) HJ.out ((Bel.refl u).alloc _) ⟨_, rfl⟩ (.inl ⟨by decide, by decide⟩)⟩
    · skip
      clear hd hi
      refine R.op_of_list rfl ?_
      unfold rF
      go_wp2
      exact ⟨upd V 1 (.slice A n c), by simp [upd], rj_step 1 _ (by decide) (by decide) HJ.out (Bel.refl u) rfl (.inl ⟨by decide, by decide⟩)⟩
    · have d0 := hd 0 (by decide +kernel)
      have d1 := hd 1 (by decide +kernel)
      clear hd hi
      obtain ⟨g, v0⟩ := hphi.out 0 d0
      have v1 : V 1 = .slice A n c := hphi.out 1 d1
      replace v0 := Lib.hid v0
      replace v1 := Lib.hid v1
      refine R.op_of_list rfl ?_
      unfold rF
      refine wpl_copy (by rfl) (.tmp 18) (.tmp 19) 22 rfl Tryd.underlying22 hi0 hz0 hz1 hz2 rfl (by omega) g v0.out ((HA.out.bel HBW.out).bel hbu.out) v1.out HN.out (by omega) ?_
      intro A' c' u' hrd hcap hb'
      exact ⟨upd V 2 (.slice A' n c'), by simp [upd, Act.put], rj_step 2 _ (by decide) (by decide) HJ.out hb' ⟨A', c', rfl, hcap, fun _ => hrd⟩ (.inl ⟨by decide, by decide⟩)⟩
    · skip
      clear hd hi
      refine R.op_of_list rfl ?_
      unfold rF
      go_wp2
      exact ⟨upd V 3 (.int .i64 z), by simp [upd], rj_step 3 _ (by decide) (by decide) HJ.out (Bel.refl u) rfl (.inl ⟨by decide, by decide⟩)⟩
    · skip
      clear hd hi
      obtain ⟨t0, t1, t2, t3⟩ := H2.out.bel hbu.out
      refine R.op_of_list rfl ?_
      unfold rF
      go_wp2
      exact ⟨upd V 4 (.agg #[.int .i64 s0, .int .i64 s1]), by simp [upd], rj_step 4 _ (by decide) (by decide) HJ.out (Bel.refl u) rfl (.inl ⟨by decide, by decide⟩)⟩
    · have d2 := hd 2 (by decide +kernel)
      have d3 := hd 3 (by decide +kernel)
      have d4 := hd 4 (by decide +kernel)
      clear hd hi
      obtain ⟨A', c', v2, hcap, hrd⟩ := hphi.out 2 d2
      have v3 : V 3 = .int .i64 z := hphi.out 3 d3
      have v4 : V 4 = .agg #[.int .i64 s0, .int .i64 s1] := hphi.out 4 d4
      have h12 : L 12 = false := by
        rcases h : L 12 with _ | _
        · rfl
        · have := (HJ.out.2.2.2.1 h).1
          rw [hL] at this
          cases this
      have HC := Lib.hid (next_out A' n c' l z s0 s1 x0 x1 N e0 e1 u ((HT.out.bel HBW.out).bel hbu.out) (hrd h12) HN.out hcap (by omega) HB.out HO.out)
      clear hrd h12
      refine R.op_of_list rfl ?_
      unfold rF
      go_wp2_with fail
      with_reducible refine HC.out.mono ?_
      rintro e u' ⟨rfl, hb'⟩
      go_wp2
      exact ⟨upd V 5 (rX x0 x1 N e0 e1), by simp [upd, v2, v3, v4, rX], rj_step 5 _ (by decide) (by decide) HJ.out hb' rfl (.inl ⟨by decide, by decide⟩)⟩
    · have d5 := hd 5 (by decide +kernel)
      clear hd hi
      have v5 : V 5 = rX x0 x1 N e0 e1 := hphi.out 5 d5
      have V5 := Lib.hid v5
      clear v5
      refine R.op_of_list rfl ?_
      unfold rF
      go_wp2
      exact ⟨upd V 6 (V 5), by simp [upd], rj_step 6 _ (by decide) (by decide) HJ.out (Bel.refl u) V5.out (.inl ⟨by decide, by decide⟩)⟩
    · have d6 := hd 6 (by decide +kernel)
      clear hd hi
      have v6 : V 6 = .tuple #[.agg #[.int .i64 x0, .int .i64 x1], .int .i64 N, .agg #[.int .i64 e0, .int .i64 e1]] := hphi.out 6 d6
      refine R.op_of_list rfl ?_
      unfold rF
      go_wp2
      exact ⟨upd V 7 (.agg #[.int .i64 x0, .int .i64 x1]), by simp [upd, v6], rj_step 7 _ (by decide) (by decide) HJ.out (Bel.refl u) rfl (.inl ⟨by decide, by decide⟩)⟩
    · have d6 := hd 6 (by decide +kernel)
      clear hd hi
      have v6 : V 6 = .tuple #[.agg #[.int .i64 x0, .int .i64 x1], .int .i64 N, .agg #[.int .i64 e0, .int .i64 e1]] := hphi.out 6 d6
      refine R.op_of_list rfl ?_
      unfold rF
      go_wp2
      exact ⟨upd V 8 (.int .i64 N), by simp [upd, v6], rj_step 8 _ (by decide) (by decide) HJ.out (Bel.refl u) rfl (.inl ⟨by decide, by decide⟩)⟩
    · have d6 := hd 6 (by decide +kernel)
      clear hd hi
      have v6 : V 6 = .tuple #[.agg #[.int .i64 x0, .int .i64 x1], .int .i64 N, .agg #[.int .i64 e0, .int .i64 e1]] := hphi.out 6 d6
      refine R.op_of_list rfl ?_
      unfold rF
      go_wp2
      exact ⟨upd V 9 (.agg #[.int .i64 e0, .int .i64 e1]), by simp [upd, v6], rj_step 9 _ (by decide) (by decide) HJ.out (Bel.refl u) rfl (.inl ⟨by decide, by decide⟩)⟩
    · skip
      clear hd hi
      have hs : L 12 = false := by
        rcases h : L 12 with _ | _
        · rfl
        · have := (HJ.out.2.2.2.1 h).2
          rw [hL] at this
          cases this
      have HS := Lib.hid hs
      clear hs
      refine R.op_of_list rfl ?_
      unfold rF
      go_wp2
      exact ⟨upd V 10 (.pointer (some ⟨u.heap.size, 0, none⟩)), by simp [upd], rj_step 10 _ (by decide) (by decide) HJ.out ((Bel.refl u).alloc _) ⟨_, rfl, Below.size hbu.out, by rw [HS.out]; exact Two.new u 24 0 0⟩ (.inr rfl)⟩
    · skip
      clear hd hi
      have hs : L 14 = false := by
        rcases h : L 14 with _ | _
        · rfl
        · have := HJ.out.2.2.2.2 h
          rw [hL] at this
          cases this
      have HS := Lib.hid hs
      clear hs
      refine R.op_of_list rfl ?_
      unfold rF
      go_wp2
      exact ⟨upd V 11 (.pointer (some ⟨u.heap.size, 0, none⟩)), by simp [upd], rj_step 11 _ (by decide) (by decide) HJ.out ((Bel.refl u).alloc _) ⟨_, rfl, Below.size hbu.out, by rw [HS.out]; exact Two.new u 28 0 0⟩ (.inr rfl)⟩
    · have d10 := hd 10 (by decide +kernel)
      have d5 := hd 5 (by decide +kernel)
      have d7 := hd 7 (by decide +kernel)
      clear hd hi
      obtain ⟨p, v10, hge, ht⟩ := hphi.out 10 d10
      obtain ⟨t0, t1, t2, t3⟩ := ht
      have v7 : V 7 = .agg #[.int .i64 x0, .int .i64 x1] := hphi.out 7 d7
      refine R.op_of_list rfl ?_
      unfold rF
      go_wp2
      exact ⟨upd V 12 undef, by simp [upd, v10, v7], rj_store 12 p x0 x1 undef HJ.out hL (.inl ⟨rfl, d10, d5, v10, rfl, rfl⟩)⟩
    · have d8 := hd 8 (by decide +kernel)
      clear hd hi
      have v8 : V 8 = .int .i64 N := hphi.out 8 d8
      refine R.op_of_list rfl ?_
      unfold rF
      go_wp2
      exact ⟨upd V 13 (.int .i64 N), by simp [upd, v8], rj_step 13 _ (by decide) (by decide) HJ.out (Bel.refl u) rfl (.inl ⟨by decide, by decide⟩)⟩
    · have d11 := hd 11 (by decide +kernel)
      have d12 := hd 12 (by decide +kernel)
      have d9 := hd 9 (by decide +kernel)
      clear hd hi
      obtain ⟨p, v11, hge, ht⟩ := hphi.out 11 d11
      obtain ⟨t0, t1, t2, t3⟩ := ht
      have v9 : V 9 = .agg #[.int .i64 e0, .int .i64 e1] := hphi.out 9 d9
      refine R.op_of_list rfl ?_
      unfold rF
      go_wp2
      exact ⟨upd V 14 undef, by simp [upd, v11, v9], rj_store 14 p e0 e1 undef HJ.out hL (.inr ⟨rfl, d11, d12, v11, rfl, rfl⟩)⟩
  · intro L a u hJ hall
    obtain ⟨V, rfl, hJ⟩ := hJ
    have g : ∀ i, i < 15 → L i = true := hall
    clear hall
    obtain ⟨hbu, hphi, _⟩ := hJ
    obtain ⟨g0, v0⟩ := hphi 0 (g 0 (by omega))
    have v1 : V 1 = .slice A n c := hphi 1 (g 1 (by omega))
    obtain ⟨A2, c2, v2, _⟩ := hphi 2 (g 2 (by omega))
    have v3 : V 3 = .int .i64 z := hphi 3 (g 3 (by omega))
    have v4 : V 4 = .agg #[.int .i64 s0, .int .i64 s1] := hphi 4 (g 4 (by omega))
    have v5 : V 5 = rX x0 x1 N e0 e1 := hphi 5 (g 5 (by omega))
    have v6 : V 6 = rX x0 x1 N e0 e1 := hphi 6 (g 6 (by omega))
    have v7 : V 7 = .agg #[.int .i64 x0, .int .i64 x1] := hphi 7 (g 7 (by omega))
    have v8 : V 8 = .int .i64 N := hphi 8 (g 8 (by omega))
    have v9 : V 9 = .agg #[.int .i64 e0, .int .i64 e1] := hphi 9 (g 9 (by omega))
    obtain ⟨p, v10, hp, hp2⟩ := hphi 10 (g 10 (by omega))
    obtain ⟨q, v11, hq, hq2⟩ := hphi 11 (g 11 (by omega))
    have v13 : V 13 = .int .i64 N := hphi 13 (g 13 (by omega))
    rw [g 12 (by omega)] at hp2
    rw [g 14 (by omega)] at hq2
    simp only [if_true] at hp2 hq2
    unfold rF
    rw [v0, v1, v2, v3, v4, v5, v6, v7, v8, v9, v10, v11, v13]
    clear v0 v1 v2 v3 v4 v5 v6 v7 v8 v9 v10 v11 v13 hphi g
    generalize rX x0 x1 N e0 e1 = X
    have HBU := Lib.hid (HBW.out.trans hbu)
    obtain ⟨t0, t1, t2, t3⟩ := H2.out.bel hbu
    have HP := Lib.hid hp2
    have HQ := Lib.hid hq2
    have hpu : p < u.heap.size := cell_block hp2.1
    have hqu : q < u.heap.size := cell_block hq2.1
    have HC := Lib.hid (rnext_out A n c l z s0 s1 x0 x1 N e0 e1 u (HA.out.bel HBU.out).here HN.out hc (by omega) HB.out HO.out)
    clear hp hq hp2 hq2 hbu H2 HBW
    go_wp2_with fail
    with_reducible refine HC.out.mono ?_
    rintro e u2 ⟨rfl, hb2⟩
    have HP2 := Lib.hid (HP.out.bel hb2)
    have HQ2 := Lib.hid (HQ.out.bel hb2)
    have HB2 := Lib.hid (HBU.out.trans hb2)
    have hpu2 : p < u2.heap.size := cell_block HP2.out.1
    have hqu2 : q < u2.heap.size := cell_block HQ2.out.1
    clear HC hb2 HP HQ HBU
    go_wp2_with fail
    have HT2 := Lib.hid ((HT.out.bel HB2.out).bel (((Bel.refl u2).alloc (.cells #[.int .i64 x0, .int .i64 x1] 24)).alloc (.cells #[.int .i64 e0, .int .i64 e1] 28)))
    have HA2 := Lib.hid ((Two.new u2 24 x0 x1).bel ((Bel.refl _).alloc (.cells #[.int .i64 e0, .int .i64 e1] 28)))
    have HA3 := Lib.hid (Two.new (u2.alloc (.cells #[.int .i64 x0, .int .i64 x1] 24)) 28 e0 e1)
    with_reducible refine (answers_any _ HT2.out).mono ?_
    rintro e u3 ⟨rfl, hb3⟩
    obtain ⟨a0, a1, _, _⟩ := HP2.out.bel (Bel.trans (((Bel.refl u2).alloc (.cells #[.int .i64 x0, .int .i64 x1] 24)).alloc (.cells #[.int .i64 e0, .int .i64 e1] 28)) hb3)
    obtain ⟨b0, b1, _, _⟩ := HQ2.out.bel (Bel.trans (((Bel.refl u2).alloc (.cells #[.int .i64 x0, .int .i64 x1] 24)).alloc (.cells #[.int .i64 e0, .int .i64 e1] 28)) hb3)
    obtain ⟨c0, c1, _, _⟩ := HA2.out.bel hb3
    have h3 := HA3.out.bel hb3
    rw [show (u2.alloc (.cells #[.int .i64 x0, .int .i64 x1] 24)).heap.size = u2.heap.size + 1 by simp] at h3
    obtain ⟨d0, d1, _, _⟩ := h3
    have HF := Lib.hid ((((HB2.out).alloc (.cells #[.int .i64 x0, .int .i64 x1] 24)).alloc (.cells #[.int .i64 e0, .int .i64 e1] 28)).trans hb3)
    clear hb3 HT2 HA2 HA3 HP2 HQ2 t0 t1 t2 t3
    go_wp2
    go_ret
    exact ⟨rfl, HF.out⟩

theorem reads_long (A : Option Addr) (n c : Nat) (z s0 s1 : Int) (w : World) (hT : Tb w) (hle : 1000 < n) :
    Calls Tryd.prog 3 #[.slice A n c, .int .i64 z, .agg #[.int .i64 s0, .int .i64 s1]] w fun e w' => e = .returned (.bool true) ∧ Bel w w' := by
  have q0 : (1000 : Int) < (n : Int) := by omega
  have HT := Lib.hid (hT.bel ((Bel.refl w).alloc (.cells #[.int .i64 s0, .int .i64 s1] 24)))
  clear hT
  go_enter Tryd.func3, Tryd.ntmps3
  go_wp2_with (go_at_call 7; (with_reducible refine (answers_any _ HT.out).mono ?_); rintro e w1 ⟨rfl, hb1⟩)
  go_ret
  exact ⟨rfl, ((Bel.refl w).alloc _).trans hb1⟩
theorem wf_u8 {l : List Int} (h : ∀ x ∈ l, (Lit.int .u8 x).wf = true) : ∀ x ∈ l, 0 ≤ x ∧ x < 256 := fun x hx => by
  have := bounds_u8 (h x hx)
  omega
theorem reads_all (A : Option Addr) (n c : Nat) (l : List Int) (z s0 s1 : Int) (w : World) (hT : Tb w) (h : Came .u8 w A n c l) :
    Calls Tryd.prog 3 #[.slice A n c, .int .i64 z, .agg #[.int .i64 s0, .int .i64 s1]] w fun e w' => e = .returned (.bool true) ∧ Bel w w' := by
  by_cases hle : n ≤ 1000
  · obtain ⟨hn, hc, hr, h0, hw⟩ := h
    obtain ⟨x0, x1, N, e0, e1, ho⟩ := outs_ex l z s0 s1
    exact reads_walk A n c l z s0 s1 x0 x1 N e0 e1 w hT hr hn hc h0 (wf_u8 hw) ho hle
  · exact reads_long A n c z s0 s1 w hT (by omega)
end Go.Proofs.YthdggdjaicfapaaDoor.U
