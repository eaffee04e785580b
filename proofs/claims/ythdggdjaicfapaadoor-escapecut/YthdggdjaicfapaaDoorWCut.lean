/- EscapeCut's walk. -/
import Derived.Test.YthdggdjaicfapaaDoorWCut1
namespace Go.Proofs.YthdggdjaicfapaaDoor.U
open Go.RowKit
set_option linter.unusedVariables false

set_option maxRecDepth 100000 in
set_option maxHeartbeats 8000000 in
theorem cut_walk (i side set m k r : Nat) (z c : Int) (B : List Int) (s0 s1 : Int) (w : World) (hT : Tb w)
    (hz0 : 0 ≤ z) (hz1 : z < 256) (hi : z % 40 = i) (he : escs[i]? = some (B, (side : Int), (set : Int))) (hm : B.length = m) (hc0 : 0 ≤ c) (hc1 : c < 256) (hr : c % m = r) (hk : k = if r = 0 then 1 else r) :
    Calls Tryd.prog 6 #[.int .u8 z, .int .u8 c, .agg #[.int .i64 s0, .int .i64 s1]] w fun e w' => e = .returned (.bool true) ∧ Bel w w' := by
  obtain ⟨i0, hi0, hz0', hz1', hz2'⟩ := info_parts info5
  have hi40 : i < 40 := by rw [← escs_len]; exact (List.getElem?_eq_some_iff.1 he).1
  have HT := Lib.hid hT
  have HE := Lib.hid he
  have HM := Lib.hid hm
  have HI := Lib.hid hi
  have HRm := Lib.hid hr
  have HKr := Lib.hid hk
  have HS := Lib.hid (Two.new w 24 s0 s1)
  have HBW : Hid (Bel w (w.alloc (.cells #[.int .i64 s0, .int .i64 s1] 24))) := Lib.hid ((Bel.refl w).alloc _)
  clear hT he hm hi hr hk
  go_enter Tryd.func6, Tryd.ntmps6
  go_wp2_with fail
  generalize hW : w.alloc (.cells #[.int .i64 s0, .int .i64 s1] 24) = W at HS HBW ⊢
  clear hW
  refine (escapes_is W).mono ?_
  rintro e u ⟨g, cap, rfl, hcap, hE, hbu⟩
  have HEc : Hid (Ec u g) := Lib.hid hE
  have HBU := Lib.hid (HBW.out.trans hbu)
  have HSU := Lib.hid (HS.out.bel hbu)
  clear hE hbu HBW HS
  obtain ⟨d0, d1, d2⟩ := HEc.out i _ HE.out
  dsimp only at d0 d1 d2
  have hrem : z.tmod 40 = i := by rw [← HI.out]; exact Int.tmod_eq_emod_of_nonneg hz0
  have hsz : (str B).size = m := by rw [str_size, HM.out]
  have hm2 : 2 ≤ m ∧ m ≤ 4 := by
    have := (escs_ok _ (List.mem_of_getElem? HE.out)).2
    have h := HM.out
    dsimp only at this
    omega
  have hmz : ((m : Int) == 0) = false := by simp; omega
  have hm0 : ¬ (m : Int) = 0 := by omega
  have hrem2 : c.tmod m = r := by rw [← HRm.out]; exact Int.tmod_eq_emod_of_nonneg hc0
  have hrm : r < m := by have := HRm.out; have := Int.emod_lt_of_pos c (show (0 : Int) < m by omega); omega
  by_cases hr0 : r = 0
  · subst hr0
    obtain rfl : k = 1 := HKr.out
    go_wp2_with fail
    generalize hX : u.alloc (Obj.cells #[Value.string (str B), Value.int IntKind.i64 side, Value.int IntKind.i64 set] 41) = X
    have x0 : X.cell? ⟨u.heap.size, 0, none⟩ = some (.string (str B)) := by rw [← hX]; simp [go_sem]
    have hbX : Bel w X := by rw [← hX]; exact HBU.out.alloc _
    have hbuX : Bel u X := by rw [← hX]; exact (Bel.refl u).alloc _
    have HSX := Lib.hid (HSU.out.bel hbuX)
    have hlt : u.heap.size < X.heap.size := cell_block x0
    have HBX := Lib.hid hbX
    have X0 := Lib.hid x0
    clear hX hbX hbuX HSU HBU HEc d0 d1 d2 hrem x0
    generalize u.heap.size = b at *
    have HSL : Hid (∀ v : World, (Instr.slice 9 (.string (str B)) none (some (.int .i64 1)) none).run Tryd.prog v = .ok (.string (str (B.take 1))) v) := Lib.hid fun v => by
      have := run_slice_string_h (P := Tryd.prog) (w := v) (t := 9) (s := str B) Tryd.underlying9 .i64 1 (by omega) (by rw [hsz]; omega)
      rw [this, ← str_take]
      rfl
    have HTS : Hid ((str (B.take 1)).size = 1) := Lib.hid (by rw [str_size, List.length_take, HM.out]; omega)
    have HBB := Lib.hid (escs_ok _ (List.mem_of_getElem? HE.out)).1
    have HBT : Hid (∀ x ∈ 97 :: B.take 1, 0 ≤ x ∧ x < 256) := Lib.hid (by
      intro x hx
      rcases List.mem_cons.1 hx with rfl | hx
      · omega
      · exact HBB.out x (List.mem_of_mem_take hx))
    obtain ⟨kL, hkL⟩ : ∃ kL, (97 :: B.take 1).length = kL := ⟨_, rfl⟩
    have HKL := Lib.hid hkL
    clear hkL
    have HLT : Hid ((97 :: B.take 1).length ≤ 100) := Lib.hid (by rw [List.length_cons, List.length_take, HM.out]; omega)
    have h27 := escs_begin _ (List.mem_of_getElem? HE.out)
    dsimp only at h27
    have HO1 : Hid (Outs (97 :: B.take 1) 1 s0 s1 0 0 0 5 1) := Lib.hid (.inr ⟨1, rfl, by
      rw [List.getElem?_cons_succ, List.getElem?_take, if_pos (by omega), h27]
      rfl, .inl ⟨cut_none _ (List.mem_of_getElem? HE.out) 1 (by show _ < B.length; rw [HM.out]; omega), rfl, rfl, rfl, rfl, rfl⟩⟩)
    have HO2 : Hid (Outs B 1 s0 s1 0 0 0 1 1) := Lib.hid (.inl ⟨.inr ⟨1, rfl, second_not _ (List.mem_of_getElem? HE.out)⟩, rfl, rfl, rfl, rfl, rfl⟩)
    clear h27
    refine R.region_inv (by kernel_rfl) (by kernel_rfl) (fun L a v => ∃ V, a = cF w b 1 B s0 s1 z c g cap i side set m 0 true V ∧ cJ X b 1 B 1 kL s0 s1 0 0 0 5 1 L V v) ⟨fun _ => undef, rfl, (Bel.refl X).drew, (fun j h => by cases h), (fun h => by cases h), (fun h => by cases h), (fun h => by cases h)⟩ ?_ ?_
    · intro q hi L a v hJ hL hd
      obtain ⟨V, rfl, hJ⟩ := hJ
      have HJ := Lib.hid hJ
      have hbv : Hid (Bel X v) := Lib.hid hJ.1
      have hphi := Lib.hid hJ.2.1
      clear hJ
      have : q = 0 ∨ q = 1 ∨ q = 2 ∨ q = 3 ∨ q = 4 ∨ q = 5 ∨ q = 6 ∨ q = 7 ∨ q = 8 ∨ q = 9 ∨ q = 10 ∨ q = 11 ∨ q = 12 ∨ q = 13 ∨ q = 14 ∨ q = 15 ∨ q = 16 := by
        have : q < 17 := hi
        omega
      rcases this with rfl | rfl | rfl | rfl | rfl | rfl | rfl | rfl | rfl | rfl | rfl | rfl | rfl | rfl | rfl | rfl | rfl
      · skip
        clear hd hi
        refine R.op_of_list rfl ?_
        unfold cF
        go_wp2
        exact ⟨upd V 0 (.pointer (some ⟨b, 0, none⟩)), by simp [upd], cj_step 0 _ (by decide) (by decide) HJ.out (Bel.refl v) rfl (.inl ⟨by decide, by decide⟩)⟩
      · have d0 := hd 0 (by decide +kernel)
        clear hd hi
        have v0 : V 0 = .pointer (some ⟨b, 0, none⟩) := hphi.out 0 d0
        have c0 := (Below.cell hbv.out (p := ⟨b, 0, none⟩) hlt).trans X0.out
        refine R.op_of_list rfl ?_
        unfold cF
        go_wp2
        exact ⟨upd V 1 (.string (str B)), by simp [upd, v0], cj_step 1 _ (by decide) (by decide) HJ.out (Bel.refl v) rfl (.inl ⟨by decide, by decide⟩)⟩
      · skip
        clear hd hi
        refine R.op_of_list rfl ?_
        unfold cF
        go_wp2
        exact ⟨upd V 2 (.int .i64 1), by simp [upd], cj_step 2 _ (by decide) (by decide) HJ.out (Bel.refl v) rfl (.inl ⟨by decide, by decide⟩)⟩
      · have d1 := hd 1 (by decide +kernel)
        have d2 := hd 2 (by decide +kernel)
        clear hd hi
        have v1 : V 1 = .string (str B) := hphi.out 1 d1
        have v2 : V 2 = .int .i64 1 := hphi.out 2 d2
        have hsl := HSL.out v
        refine R.op_of_list rfl ?_
        unfold cF
        go_wp2
        exact ⟨upd V 3 (.string (str (B.take 1))), by simp [upd, v1, v2], cj_step 3 _ (by decide) (by decide) HJ.out (Bel.refl v) rfl (.inl ⟨by decide, by decide⟩)⟩
      · have d3 := hd 3 (by decide +kernel)
        clear hd hi
        have v3 : V 3 = .string (str (B.take 1)) := hphi.out 3 d3
        have hz := HTS.out
        refine R.op_of_list rfl ?_
        unfold cF
        go_wp2
        exact ⟨upd V 4 (.string (⟨#[97]⟩ ++ str (B.take 1))), by simp [upd, v3], cj_step 4 _ (by decide) (by decide) HJ.out (Bel.refl v) (by show _ = _; rw [str_cons]; rfl) (.inl ⟨by decide, by decide⟩)⟩
      · have d4 := hd 4 (by decide +kernel)
        clear hd hi
        have v4 : V 4 = .string (str (97 :: B.take 1)) := hphi.out 4 d4
        obtain ⟨cap1, v', hrun, hrd, hb', hc1⟩ := run_bytes_cap v HBT.out HKL.out
        refine R.op_of_list rfl ?_
        unfold cF
        go_wp2
        exact ⟨upd V 5 (.slice (some ⟨v.heap.size, 0, none⟩) kL cap1), by simp [upd, v4], cj_step 5 _ (by decide) (by decide) HJ.out hb' ⟨_, _, rfl, hc1, fun _ => hrd.here⟩ (.inl ⟨by decide, by decide⟩)⟩
      · skip
        clear hd hi
        obtain ⟨t0, t1, t2, t3⟩ := HSX.out.bel hbv.out
        refine R.op_of_list rfl ?_
        unfold cF
        go_wp2
        exact ⟨upd V 6 (.agg #[.int .i64 s0, .int .i64 s1]), by simp [upd], cj_step 6 _ (by decide) (by decide) HJ.out (Bel.refl v) rfl (.inl ⟨by decide, by decide⟩)⟩
      · have d5 := hd 5 (by decide +kernel)
        have d6 := hd 6 (by decide +kernel)
        clear hd hi
        obtain ⟨A', c', v5, hcap', hrd⟩ := hphi.out 5 d5
        have v6 : V 6 = .agg #[.int .i64 s0, .int .i64 s1] := hphi.out 6 d6
        have h12 : L 14 = false := by
          rcases h : L 14 with _ | _
          · rfl
          · have := (HJ.out.2.2.2.1 h).1
            rw [hL] at this
            cases this
        have HC := Lib.hid (next_out A' kL c' (97 :: B.take 1) 1 s0 s1 0 0 0 5 1 v ((HT.out.bel HBX.out).bel hbv.out) (hrd h12) HKL.out hcap' (by have := HLT.out; have := HKL.out; omega) HBT.out HO1.out)
        clear hrd h12
        refine R.op_of_list rfl ?_
        unfold cF
        go_wp2_with fail
        with_reducible refine HC.out.mono ?_
        rintro e v' ⟨he', hb'⟩
        subst he'
        go_wp2
        exact ⟨upd V 7 (rX 0 0 0 5 1), by simp [upd, v5, v6, rX], cj_step 7 _ (by decide) (by decide) HJ.out hb' rfl (.inl ⟨by decide, by decide⟩)⟩
      · have d7 := hd 7 (by decide +kernel)
        clear hd hi
        have v5 : V 7 = rX 0 0 0 5 1 := hphi.out 7 d7
        have V5 := Lib.hid v5
        clear v5
        refine R.op_of_list rfl ?_
        unfold cF
        go_wp2
        exact ⟨upd V 8 (V 7), by simp [upd], cj_step 8 _ (by decide) (by decide) HJ.out (Bel.refl v) V5.out (.inl ⟨by decide, by decide⟩)⟩
      · have d8 := hd 8 (by decide +kernel)
        clear hd hi
        have v6 : V 8 = .tuple #[.agg #[.int .i64 0, .int .i64 0], .int .i64 0, .agg #[.int .i64 5, .int .i64 1]] := hphi.out 8 d8
        refine R.op_of_list rfl ?_
        unfold cF
        go_wp2
        exact ⟨upd V 9 (.agg #[.int .i64 0, .int .i64 0]), by simp [upd, v6], cj_step 9 _ (by decide) (by decide) HJ.out (Bel.refl v) rfl (.inl ⟨by decide, by decide⟩)⟩
      · have d8 := hd 8 (by decide +kernel)
        clear hd hi
        have v6 : V 8 = .tuple #[.agg #[.int .i64 0, .int .i64 0], .int .i64 0, .agg #[.int .i64 5, .int .i64 1]] := hphi.out 8 d8
        refine R.op_of_list rfl ?_
        unfold cF
        go_wp2
        exact ⟨upd V 10 (.int .i64 0), by simp [upd, v6], cj_step 10 _ (by decide) (by decide) HJ.out (Bel.refl v) rfl (.inl ⟨by decide, by decide⟩)⟩
      · have d8 := hd 8 (by decide +kernel)
        clear hd hi
        have v6 : V 8 = .tuple #[.agg #[.int .i64 0, .int .i64 0], .int .i64 0, .agg #[.int .i64 5, .int .i64 1]] := hphi.out 8 d8
        refine R.op_of_list rfl ?_
        unfold cF
        go_wp2
        exact ⟨upd V 11 (.agg #[.int .i64 5, .int .i64 1]), by simp [upd, v6], cj_step 11 _ (by decide) (by decide) HJ.out (Bel.refl v) rfl (.inl ⟨by decide, by decide⟩)⟩
      · skip
        clear hd hi
        have hs : L 14 = false := by
          rcases h : L 14 with _ | _
          · rfl
          · have := (HJ.out.2.2.2.1 h).2
            rw [hL] at this
            cases this
        have HS := Lib.hid hs
        clear hs
        refine R.op_of_list rfl ?_
        unfold cF
        go_wp2
        exact ⟨upd V 12 (.pointer (some ⟨v.heap.size, 0, none⟩)), by simp [upd], cj_step 12 _ (by decide) (by decide) HJ.out ((Bel.refl v).alloc _) ⟨_, rfl, Below.size hbv.out, by rw [HS.out]; exact Two.new v 24 0 0⟩ (.inr rfl)⟩
      · skip
        clear hd hi
        have hs : L 16 = false := by
          rcases h : L 16 with _ | _
          · rfl
          · have := HJ.out.2.2.2.2 h
            rw [hL] at this
            cases this
        have HS := Lib.hid hs
        clear hs
        refine R.op_of_list rfl ?_
        unfold cF
        go_wp2
        exact ⟨upd V 13 (.pointer (some ⟨v.heap.size, 0, none⟩)), by simp [upd], cj_step 13 _ (by decide) (by decide) HJ.out ((Bel.refl v).alloc _) ⟨_, rfl, Below.size hbv.out, by rw [HS.out]; exact Two.new v 28 0 0⟩ (.inr rfl)⟩
      · have d12 := hd 12 (by decide +kernel)
        have d7 := hd 7 (by decide +kernel)
        have d9 := hd 9 (by decide +kernel)
        clear hd hi
        obtain ⟨p, v10, hge, ht⟩ := hphi.out 12 d12
        obtain ⟨t0, t1, t2, t3⟩ := ht
        have v7 : V 9 = .agg #[.int .i64 0, .int .i64 0] := hphi.out 9 d9
        refine R.op_of_list rfl ?_
        unfold cF
        go_wp2
        exact ⟨upd V 14 undef, by simp [upd, v10, v7], cj_store 14 p 0 0 undef HJ.out hL (.inl ⟨rfl, d12, d7, v10, rfl, rfl⟩)⟩
      · have d10 := hd 10 (by decide +kernel)
        clear hd hi
        have v8 : V 10 = .int .i64 0 := hphi.out 10 d10
        refine R.op_of_list rfl ?_
        unfold cF
        go_wp2
        exact ⟨upd V 15 (.int .i64 0), by simp [upd, v8], cj_step 15 _ (by decide) (by decide) HJ.out (Bel.refl v) rfl (.inl ⟨by decide, by decide⟩)⟩
      · have d13 := hd 13 (by decide +kernel)
        have d14 := hd 14 (by decide +kernel)
        have d11 := hd 11 (by decide +kernel)
        clear hd hi
        obtain ⟨p, v11, hge, ht⟩ := hphi.out 13 d13
        obtain ⟨t0, t1, t2, t3⟩ := ht
        have v9 : V 11 = .agg #[.int .i64 5, .int .i64 1] := hphi.out 11 d11
        refine R.op_of_list rfl ?_
        unfold cF
        go_wp2
        exact ⟨upd V 16 undef, by simp [upd, v11, v9], cj_store 16 p 5 1 undef HJ.out hL (.inr ⟨rfl, d13, d14, v11, rfl, rfl⟩)⟩
    · intro L a v hJ hall
      obtain ⟨V, rfl, hJ⟩ := hJ
      have g : ∀ i, i < 17 → L i = true := hall
      clear hall
      obtain ⟨hbv, hphi, _⟩ := hJ
      have v0 : V 0 = .pointer (some ⟨b, 0, none⟩) := hphi 0 (g 0 (by omega))
      have v1 : V 1 = .string (str B) := hphi 1 (g 1 (by omega))
      have v2 : V 2 = .int .i64 1 := hphi 2 (g 2 (by omega))
      have v3 : V 3 = .string (str (B.take 1)) := hphi 3 (g 3 (by omega))
      have v4 : V 4 = .string (str (97 :: B.take 1)) := hphi 4 (g 4 (by omega))
      obtain ⟨A5, c5, v5, _⟩ := hphi 5 (g 5 (by omega))
      have v6 : V 6 = .agg #[.int .i64 s0, .int .i64 s1] := hphi 6 (g 6 (by omega))
      have v7 : V 7 = rX 0 0 0 5 1 := hphi 7 (g 7 (by omega))
      have v8 : V 8 = rX 0 0 0 5 1 := hphi 8 (g 8 (by omega))
      have v9 : V 9 = .agg #[.int .i64 0, .int .i64 0] := hphi 9 (g 9 (by omega))
      have v10 : V 10 = .int .i64 0 := hphi 10 (g 10 (by omega))
      have v11 : V 11 = .agg #[.int .i64 5, .int .i64 1] := hphi 11 (g 11 (by omega))
      obtain ⟨p, v12, hp, hp2⟩ := hphi 12 (g 12 (by omega))
      obtain ⟨q, v13, hq, hq2⟩ := hphi 13 (g 13 (by omega))
      have v15 : V 15 = .int .i64 0 := hphi 15 (g 15 (by omega))
      rw [g 14 (by omega)] at hp2
      rw [g 16 (by omega)] at hq2
      simp only [if_true] at hp2 hq2
      unfold cF
      rw [v0, v1, v2, v3, v4, v5, v6, v7, v8, v9, v10, v11, v12, v13, v15]
      clear v0 v1 v2 v3 v4 v5 v6 v7 v8 v9 v10 v11 v12 v13 v15 hphi g
      generalize rX 0 0 0 5 1 = XX
      generalize str (97 :: B.take 1) = S1
      generalize str (B.take 1) = S2
      have HBV := Lib.hid (HBX.out.trans hbv)
      obtain ⟨t0, t1, t2, t3⟩ := HSX.out.bel hbv
      have HP := Lib.hid hp2
      have HQ := Lib.hid hq2
      have hpv : p < v.heap.size := cell_block hp2.1
      have hqv : q < v.heap.size := cell_block hq2.1
      have c0 := (Below.cell hbv (p := ⟨b, 0, none⟩) hlt).trans X0.out
      obtain ⟨cap1, y, hrun, hrd, hby, hc1⟩ := run_bytes_cap v HBB.out HM.out
      obtain ⟨u0, u1, _, _⟩ := (HSX.out.bel hbv).bel hby
      have HC := Lib.hid (next_out (some ⟨v.heap.size, 0, none⟩) m cap1 B 1 s0 s1 0 0 0 1 1 y ((HT.out.bel HBV.out).bel hby) hrd.here HM.out hc1 (by omega) HBB.out HO2.out)
      have HBY := Lib.hid (HBV.out.trans hby)
      have HP1 := Lib.hid (HP.out.bel hby)
      have HQ1 := Lib.hid (HQ.out.bel hby)
      clear hp hq hp2 hq2 hbv HSX HBX HBV hrd hby HP HQ HSL HTS HBB HBT HLT HO1 HO2 hm0 hmz hrem2
      go_wp2_with fail
      clear hrun
      with_reducible refine HC.out.mono ?_
      rintro e y2 ⟨he2, hb2⟩
      subst he2
      have HBY2 := Lib.hid (HBY.out.trans hb2)
      have HP2 := Lib.hid (HP1.out.bel hb2)
      have HQ2 := Lib.hid (HQ1.out.bel hb2)
      have hp2 : p < y2.heap.size := cell_block HP2.out.1
      have hq2 : q < y2.heap.size := cell_block HQ2.out.1
      clear HC hb2 HP1 HQ1 HBY t0 t1 t2 t3 u0 u1 c0
      go_wp2_with fail
      have G3 := Lib.hid ((((Bel.refl y2).alloc (.cells #[.int .i64 0, .int .i64 0] 24)).alloc (.cells #[.int .i64 1, .int .i64 1] 28)).alloc (.cells #[.int .i64 5, .int .i64 1] 28))
      have E2 := Lib.hid ((Two.new (y2.alloc (.cells #[.int .i64 0, .int .i64 0] 24)) 28 1 1).bel ((Bel.refl _).alloc (.cells #[.int .i64 5, .int .i64 1] 28)))
      have E3 := Lib.hid (Two.new ((y2.alloc (.cells #[.int .i64 0, .int .i64 0] 24)).alloc (.cells #[.int .i64 1, .int .i64 1] 28)) 28 5 1)
      have HTT := Lib.hid ((HT.out.bel HBY2.out).bel G3.out)
      with_reducible refine (answers_any _ HTT.out).mono ?_
      rintro e y3 ⟨he3, hb3⟩
      subst he3
      obtain ⟨a0, a1, _, _⟩ := HQ2.out.bel (G3.out.trans hb3)
      have e2 := E2.out.bel hb3
      have e3 := E3.out.bel hb3
      rw [show (y2.alloc (.cells #[.int .i64 0, .int .i64 0] 24)).heap.size = y2.heap.size + 1 by simp] at e2
      rw [show ((y2.alloc (.cells #[.int .i64 0, .int .i64 0] 24)).alloc (.cells #[.int .i64 1, .int .i64 1] 28)).heap.size = y2.heap.size + 1 + 1 by simp] at e3
      obtain ⟨e20, e21, _, _⟩ := e2
      obtain ⟨e30, e31, _, _⟩ := e3
      have HF := Lib.hid ((HBY2.out.trans G3.out).trans hb3)
      clear E2 E3 G3 HTT hb3 HP2 HQ2
      go_wp2
      go_ret
      exact ⟨rfl, HF.out⟩
  · have hrq : ((r : Int) == 0) = false := by simp; omega
    obtain rfl : k = r := by have := HKr.out; rwa [if_neg hr0] at this
    go_wp2_with fail
    generalize hX : u.alloc (Obj.cells #[Value.string (str B), Value.int IntKind.i64 side, Value.int IntKind.i64 set] 41) = X
    have x0 : X.cell? ⟨u.heap.size, 0, none⟩ = some (.string (str B)) := by rw [← hX]; simp [go_sem]
    have hbX : Bel w X := by rw [← hX]; exact HBU.out.alloc _
    have hbuX : Bel u X := by rw [← hX]; exact (Bel.refl u).alloc _
    have HSX := Lib.hid (HSU.out.bel hbuX)
    have hlt : u.heap.size < X.heap.size := cell_block x0
    have HBX := Lib.hid hbX
    have X0 := Lib.hid x0
    clear hX hbX hbuX HSU HBU HEc d0 d1 d2 hrem x0
    generalize u.heap.size = b at *
    have HSL : Hid (∀ v : World, (Instr.slice 9 (.string (str B)) none (some (.int .i64 (k : Int))) none).run Tryd.prog v = .ok (.string (str (B.take k))) v) := Lib.hid fun v => by
      have := run_slice_string_h (P := Tryd.prog) (w := v) (t := 9) (s := str B) Tryd.underlying9 .i64 (k : Int) (by omega) (by rw [hsz]; omega)
      rw [this, ← str_take]
      rfl
    have HTS : Hid ((str (B.take k)).size = k) := Lib.hid (by rw [str_size, List.length_take, HM.out]; omega)
    have HBB := Lib.hid (escs_ok _ (List.mem_of_getElem? HE.out)).1
    have HBT : Hid (∀ x ∈ 97 :: B.take k, 0 ≤ x ∧ x < 256) := Lib.hid (by
      intro x hx
      rcases List.mem_cons.1 hx with rfl | hx
      · omega
      · exact HBB.out x (List.mem_of_mem_take hx))
    obtain ⟨kL, hkL⟩ : ∃ kL, (97 :: B.take k).length = kL := ⟨_, rfl⟩
    have HKL := Lib.hid hkL
    clear hkL
    have HLT : Hid ((97 :: B.take k).length ≤ 100) := Lib.hid (by rw [List.length_cons, List.length_take, HM.out]; omega)
    have h27 := escs_begin _ (List.mem_of_getElem? HE.out)
    dsimp only at h27
    have HO1 : Hid (Outs (97 :: B.take k) 1 s0 s1 0 0 0 5 1) := Lib.hid (.inr ⟨1, rfl, by
      rw [List.getElem?_cons_succ, List.getElem?_take, if_pos (by omega), h27]
      rfl, .inl ⟨cut_none _ (List.mem_of_getElem? HE.out) k (by show _ < B.length; rw [HM.out]; omega), rfl, rfl, rfl, rfl, rfl⟩⟩)
    have HO2 : Hid (Outs B 1 s0 s1 0 0 0 1 1) := Lib.hid (.inl ⟨.inr ⟨1, rfl, second_not _ (List.mem_of_getElem? HE.out)⟩, rfl, rfl, rfl, rfl, rfl⟩)
    clear h27
    refine R.region_inv (by kernel_rfl) (by kernel_rfl) (fun L a v => ∃ V, a = cF w b (k : Int) B s0 s1 z c g cap i side set m k false V ∧ cJ X b (k : Int) B k kL s0 s1 0 0 0 5 1 L V v) ⟨fun _ => undef, rfl, (Bel.refl X).drew, (fun j h => by cases h), (fun h => by cases h), (fun h => by cases h), (fun h => by cases h)⟩ ?_ ?_
    · intro q hi L a v hJ hL hd
      obtain ⟨V, rfl, hJ⟩ := hJ
      have HJ := Lib.hid hJ
      have hbv : Hid (Bel X v) := Lib.hid hJ.1
      have hphi := Lib.hid hJ.2.1
      clear hJ
      have : q = 0 ∨ q = 1 ∨ q = 2 ∨ q = 3 ∨ q = 4 ∨ q = 5 ∨ q = 6 ∨ q = 7 ∨ q = 8 ∨ q = 9 ∨ q = 10 ∨ q = 11 ∨ q = 12 ∨ q = 13 ∨ q = 14 ∨ q = 15 ∨ q = 16 := by
        have : q < 17 := hi
        omega
      rcases this with rfl | rfl | rfl | rfl | rfl | rfl | rfl | rfl | rfl | rfl | rfl | rfl | rfl | rfl | rfl | rfl | rfl
      · skip
        clear hd hi
        refine R.op_of_list rfl ?_
        unfold cF
        go_wp2
        exact ⟨upd V 0 (.pointer (some ⟨b, 0, none⟩)), by simp [upd], cj_step 0 _ (by decide) (by decide) HJ.out (Bel.refl v) rfl (.inl ⟨by decide, by decide⟩)⟩
      · have d0 := hd 0 (by decide +kernel)
        clear hd hi
        have v0 : V 0 = .pointer (some ⟨b, 0, none⟩) := hphi.out 0 d0
        have c0 := (Below.cell hbv.out (p := ⟨b, 0, none⟩) hlt).trans X0.out
        refine R.op_of_list rfl ?_
        unfold cF
        go_wp2
        exact ⟨upd V 1 (.string (str B)), by simp [upd, v0], cj_step 1 _ (by decide) (by decide) HJ.out (Bel.refl v) rfl (.inl ⟨by decide, by decide⟩)⟩
      · skip
        clear hd hi
        refine R.op_of_list rfl ?_
        unfold cF
        go_wp2
        exact ⟨upd V 2 (.int .i64 (k : Int)), by simp [upd], cj_step 2 _ (by decide) (by decide) HJ.out (Bel.refl v) rfl (.inl ⟨by decide, by decide⟩)⟩
      · have d1 := hd 1 (by decide +kernel)
        have d2 := hd 2 (by decide +kernel)
        clear hd hi
        have v1 : V 1 = .string (str B) := hphi.out 1 d1
        have v2 : V 2 = .int .i64 (k : Int) := hphi.out 2 d2
        have hsl := HSL.out v
        refine R.op_of_list rfl ?_
        unfold cF
        go_wp2
        exact ⟨upd V 3 (.string (str (B.take k))), by simp [upd, v1, v2], cj_step 3 _ (by decide) (by decide) HJ.out (Bel.refl v) rfl (.inl ⟨by decide, by decide⟩)⟩
      · have d3 := hd 3 (by decide +kernel)
        clear hd hi
        have v3 : V 3 = .string (str (B.take k)) := hphi.out 3 d3
        have hz := HTS.out
        refine R.op_of_list rfl ?_
        unfold cF
        go_wp2
        exact ⟨upd V 4 (.string (⟨#[97]⟩ ++ str (B.take k))), by simp [upd, v3], cj_step 4 _ (by decide) (by decide) HJ.out (Bel.refl v) (by show _ = _; rw [str_cons]; rfl) (.inl ⟨by decide, by decide⟩)⟩
      · have d4 := hd 4 (by decide +kernel)
        clear hd hi
        have v4 : V 4 = .string (str (97 :: B.take k)) := hphi.out 4 d4
        obtain ⟨cap1, v', hrun, hrd, hb', hc1⟩ := run_bytes_cap v HBT.out HKL.out
        refine R.op_of_list rfl ?_
        unfold cF
        go_wp2
        exact ⟨upd V 5 (.slice (some ⟨v.heap.size, 0, none⟩) kL cap1), by simp [upd, v4], cj_step 5 _ (by decide) (by decide) HJ.out hb' ⟨_, _, rfl, hc1, fun _ => hrd.here⟩ (.inl ⟨by decide, by decide⟩)⟩
      · skip
        clear hd hi
        obtain ⟨t0, t1, t2, t3⟩ := HSX.out.bel hbv.out
        refine R.op_of_list rfl ?_
        unfold cF
        go_wp2
        exact ⟨upd V 6 (.agg #[.int .i64 s0, .int .i64 s1]), by simp [upd], cj_step 6 _ (by decide) (by decide) HJ.out (Bel.refl v) rfl (.inl ⟨by decide, by decide⟩)⟩
      · have d5 := hd 5 (by decide +kernel)
        have d6 := hd 6 (by decide +kernel)
        clear hd hi
        obtain ⟨A', c', v5, hcap', hrd⟩ := hphi.out 5 d5
        have v6 : V 6 = .agg #[.int .i64 s0, .int .i64 s1] := hphi.out 6 d6
        have h12 : L 14 = false := by
          rcases h : L 14 with _ | _
          · rfl
          · have := (HJ.out.2.2.2.1 h).1
            rw [hL] at this
            cases this
        have HC := Lib.hid (next_out A' kL c' (97 :: B.take k) 1 s0 s1 0 0 0 5 1 v ((HT.out.bel HBX.out).bel hbv.out) (hrd h12) HKL.out hcap' (by have := HLT.out; have := HKL.out; omega) HBT.out HO1.out)
        clear hrd h12
        refine R.op_of_list rfl ?_
        unfold cF
        go_wp2_with fail
        with_reducible refine HC.out.mono ?_
        rintro e v' ⟨he', hb'⟩
        subst he'
        go_wp2
        exact ⟨upd V 7 (rX 0 0 0 5 1), by simp [upd, v5, v6, rX], cj_step 7 _ (by decide) (by decide) HJ.out hb' rfl (.inl ⟨by decide, by decide⟩)⟩
      · have d7 := hd 7 (by decide +kernel)
        clear hd hi
        have v5 : V 7 = rX 0 0 0 5 1 := hphi.out 7 d7
        have V5 := Lib.hid v5
        clear v5
        refine R.op_of_list rfl ?_
        unfold cF
        go_wp2
        exact ⟨upd V 8 (V 7), by simp [upd], cj_step 8 _ (by decide) (by decide) HJ.out (Bel.refl v) V5.out (.inl ⟨by decide, by decide⟩)⟩
      · have d8 := hd 8 (by decide +kernel)
        clear hd hi
        have v6 : V 8 = .tuple #[.agg #[.int .i64 0, .int .i64 0], .int .i64 0, .agg #[.int .i64 5, .int .i64 1]] := hphi.out 8 d8
        refine R.op_of_list rfl ?_
        unfold cF
        go_wp2
        exact ⟨upd V 9 (.agg #[.int .i64 0, .int .i64 0]), by simp [upd, v6], cj_step 9 _ (by decide) (by decide) HJ.out (Bel.refl v) rfl (.inl ⟨by decide, by decide⟩)⟩
      · have d8 := hd 8 (by decide +kernel)
        clear hd hi
        have v6 : V 8 = .tuple #[.agg #[.int .i64 0, .int .i64 0], .int .i64 0, .agg #[.int .i64 5, .int .i64 1]] := hphi.out 8 d8
        refine R.op_of_list rfl ?_
        unfold cF
        go_wp2
        exact ⟨upd V 10 (.int .i64 0), by simp [upd, v6], cj_step 10 _ (by decide) (by decide) HJ.out (Bel.refl v) rfl (.inl ⟨by decide, by decide⟩)⟩
      · have d8 := hd 8 (by decide +kernel)
        clear hd hi
        have v6 : V 8 = .tuple #[.agg #[.int .i64 0, .int .i64 0], .int .i64 0, .agg #[.int .i64 5, .int .i64 1]] := hphi.out 8 d8
        refine R.op_of_list rfl ?_
        unfold cF
        go_wp2
        exact ⟨upd V 11 (.agg #[.int .i64 5, .int .i64 1]), by simp [upd, v6], cj_step 11 _ (by decide) (by decide) HJ.out (Bel.refl v) rfl (.inl ⟨by decide, by decide⟩)⟩
      · skip
        clear hd hi
        have hs : L 14 = false := by
          rcases h : L 14 with _ | _
          · rfl
          · have := (HJ.out.2.2.2.1 h).2
            rw [hL] at this
            cases this
        have HS := Lib.hid hs
        clear hs
        refine R.op_of_list rfl ?_
        unfold cF
        go_wp2
        exact ⟨upd V 12 (.pointer (some ⟨v.heap.size, 0, none⟩)), by simp [upd], cj_step 12 _ (by decide) (by decide) HJ.out ((Bel.refl v).alloc _) ⟨_, rfl, Below.size hbv.out, by rw [HS.out]; exact Two.new v 24 0 0⟩ (.inr rfl)⟩
      · skip
        clear hd hi
        have hs : L 16 = false := by
          rcases h : L 16 with _ | _
          · rfl
          · have := HJ.out.2.2.2.2 h
            rw [hL] at this
            cases this
        have HS := Lib.hid hs
        clear hs
        refine R.op_of_list rfl ?_
        unfold cF
        go_wp2
        exact ⟨upd V 13 (.pointer (some ⟨v.heap.size, 0, none⟩)), by simp [upd], cj_step 13 _ (by decide) (by decide) HJ.out ((Bel.refl v).alloc _) ⟨_, rfl, Below.size hbv.out, by rw [HS.out]; exact Two.new v 28 0 0⟩ (.inr rfl)⟩
      · have d12 := hd 12 (by decide +kernel)
        have d7 := hd 7 (by decide +kernel)
        have d9 := hd 9 (by decide +kernel)
        clear hd hi
        obtain ⟨p, v10, hge, ht⟩ := hphi.out 12 d12
        obtain ⟨t0, t1, t2, t3⟩ := ht
        have v7 : V 9 = .agg #[.int .i64 0, .int .i64 0] := hphi.out 9 d9
        refine R.op_of_list rfl ?_
        unfold cF
        go_wp2
        exact ⟨upd V 14 undef, by simp [upd, v10, v7], cj_store 14 p 0 0 undef HJ.out hL (.inl ⟨rfl, d12, d7, v10, rfl, rfl⟩)⟩
      · have d10 := hd 10 (by decide +kernel)
        clear hd hi
        have v8 : V 10 = .int .i64 0 := hphi.out 10 d10
        refine R.op_of_list rfl ?_
        unfold cF
        go_wp2
        exact ⟨upd V 15 (.int .i64 0), by simp [upd, v8], cj_step 15 _ (by decide) (by decide) HJ.out (Bel.refl v) rfl (.inl ⟨by decide, by decide⟩)⟩
      · have d13 := hd 13 (by decide +kernel)
        have d14 := hd 14 (by decide +kernel)
        have d11 := hd 11 (by decide +kernel)
        clear hd hi
        obtain ⟨p, v11, hge, ht⟩ := hphi.out 13 d13
        obtain ⟨t0, t1, t2, t3⟩ := ht
        have v9 : V 11 = .agg #[.int .i64 5, .int .i64 1] := hphi.out 11 d11
        refine R.op_of_list rfl ?_
        unfold cF
        go_wp2
        exact ⟨upd V 16 undef, by simp [upd, v11, v9], cj_store 16 p 5 1 undef HJ.out hL (.inr ⟨rfl, d13, d14, v11, rfl, rfl⟩)⟩
    · intro L a v hJ hall
      obtain ⟨V, rfl, hJ⟩ := hJ
      have g : ∀ i, i < 17 → L i = true := hall
      clear hall
      obtain ⟨hbv, hphi, _⟩ := hJ
      have v0 : V 0 = .pointer (some ⟨b, 0, none⟩) := hphi 0 (g 0 (by omega))
      have v1 : V 1 = .string (str B) := hphi 1 (g 1 (by omega))
      have v2 : V 2 = .int .i64 (k : Int) := hphi 2 (g 2 (by omega))
      have v3 : V 3 = .string (str (B.take k)) := hphi 3 (g 3 (by omega))
      have v4 : V 4 = .string (str (97 :: B.take k)) := hphi 4 (g 4 (by omega))
      obtain ⟨A5, c5, v5, _⟩ := hphi 5 (g 5 (by omega))
      have v6 : V 6 = .agg #[.int .i64 s0, .int .i64 s1] := hphi 6 (g 6 (by omega))
      have v7 : V 7 = rX 0 0 0 5 1 := hphi 7 (g 7 (by omega))
      have v8 : V 8 = rX 0 0 0 5 1 := hphi 8 (g 8 (by omega))
      have v9 : V 9 = .agg #[.int .i64 0, .int .i64 0] := hphi 9 (g 9 (by omega))
      have v10 : V 10 = .int .i64 0 := hphi 10 (g 10 (by omega))
      have v11 : V 11 = .agg #[.int .i64 5, .int .i64 1] := hphi 11 (g 11 (by omega))
      obtain ⟨p, v12, hp, hp2⟩ := hphi 12 (g 12 (by omega))
      obtain ⟨q, v13, hq, hq2⟩ := hphi 13 (g 13 (by omega))
      have v15 : V 15 = .int .i64 0 := hphi 15 (g 15 (by omega))
      rw [g 14 (by omega)] at hp2
      rw [g 16 (by omega)] at hq2
      simp only [if_true] at hp2 hq2
      unfold cF
      rw [v0, v1, v2, v3, v4, v5, v6, v7, v8, v9, v10, v11, v12, v13, v15]
      clear v0 v1 v2 v3 v4 v5 v6 v7 v8 v9 v10 v11 v12 v13 v15 hphi g
      generalize rX 0 0 0 5 1 = XX
      generalize str (97 :: B.take k) = S1
      generalize str (B.take k) = S2
      have HBV := Lib.hid (HBX.out.trans hbv)
      obtain ⟨t0, t1, t2, t3⟩ := HSX.out.bel hbv
      have HP := Lib.hid hp2
      have HQ := Lib.hid hq2
      have hpv : p < v.heap.size := cell_block hp2.1
      have hqv : q < v.heap.size := cell_block hq2.1
      have c0 := (Below.cell hbv (p := ⟨b, 0, none⟩) hlt).trans X0.out
      obtain ⟨cap1, y, hrun, hrd, hby, hc1⟩ := run_bytes_cap v HBB.out HM.out
      obtain ⟨u0, u1, _, _⟩ := (HSX.out.bel hbv).bel hby
      have HC := Lib.hid (next_out (some ⟨v.heap.size, 0, none⟩) m cap1 B 1 s0 s1 0 0 0 1 1 y ((HT.out.bel HBV.out).bel hby) hrd.here HM.out hc1 (by omega) HBB.out HO2.out)
      have HBY := Lib.hid (HBV.out.trans hby)
      have HP1 := Lib.hid (HP.out.bel hby)
      have HQ1 := Lib.hid (HQ.out.bel hby)
      clear hp hq hp2 hq2 hbv HSX HBX HBV hrd hby HP HQ HSL HTS HBB HBT HLT HO1 HO2 hm0 hmz hrem2
      go_wp2_with fail
      clear hrun
      with_reducible refine HC.out.mono ?_
      rintro e y2 ⟨he2, hb2⟩
      subst he2
      have HBY2 := Lib.hid (HBY.out.trans hb2)
      have HP2 := Lib.hid (HP1.out.bel hb2)
      have HQ2 := Lib.hid (HQ1.out.bel hb2)
      have hp2 : p < y2.heap.size := cell_block HP2.out.1
      have hq2 : q < y2.heap.size := cell_block HQ2.out.1
      clear HC hb2 HP1 HQ1 HBY t0 t1 t2 t3 u0 u1 c0
      go_wp2_with fail
      have G3 := Lib.hid ((((Bel.refl y2).alloc (.cells #[.int .i64 0, .int .i64 0] 24)).alloc (.cells #[.int .i64 1, .int .i64 1] 28)).alloc (.cells #[.int .i64 5, .int .i64 1] 28))
      have E2 := Lib.hid ((Two.new (y2.alloc (.cells #[.int .i64 0, .int .i64 0] 24)) 28 1 1).bel ((Bel.refl _).alloc (.cells #[.int .i64 5, .int .i64 1] 28)))
      have E3 := Lib.hid (Two.new ((y2.alloc (.cells #[.int .i64 0, .int .i64 0] 24)).alloc (.cells #[.int .i64 1, .int .i64 1] 28)) 28 5 1)
      have HTT := Lib.hid ((HT.out.bel HBY2.out).bel G3.out)
      with_reducible refine (answers_any _ HTT.out).mono ?_
      rintro e y3 ⟨he3, hb3⟩
      subst he3
      obtain ⟨a0, a1, _, _⟩ := HQ2.out.bel (G3.out.trans hb3)
      have e2 := E2.out.bel hb3
      have e3 := E3.out.bel hb3
      rw [show (y2.alloc (.cells #[.int .i64 0, .int .i64 0] 24)).heap.size = y2.heap.size + 1 by simp] at e2
      rw [show ((y2.alloc (.cells #[.int .i64 0, .int .i64 0] 24)).alloc (.cells #[.int .i64 1, .int .i64 1] 28)).heap.size = y2.heap.size + 1 + 1 by simp] at e3
      obtain ⟨e20, e21, _, _⟩ := e2
      obtain ⟨e30, e31, _, _⟩ := e3
      have HF := Lib.hid ((HBY2.out.trans G3.out).trans hb3)
      clear E2 E3 G3 HTT hb3 HP2 HQ2
      go_wp2
      go_ret
      exact ⟨rfl, HF.out⟩

theorem cut_any (z c : Int) (s0 s1 : Int) (w : World) (hT : Tb w) (hz : (Lit.int .u8 z).wf = true) (hc : (Lit.int .u8 c).wf = true) :
    Calls Tryd.prog 6 #[.int .u8 z, .int .u8 c, .agg #[.int .i64 s0, .int .i64 s1]] w fun e w' => e = .returned (.bool true) ∧ Bel w w' := by
  have hz' := bounds_u8 hz
  have hc' := bounds_u8 hc
  obtain ⟨i, side, set, m, B, hi, he, hm⟩ := esc_of z hz'.1
  obtain ⟨r, hr⟩ : ∃ r : Nat, c % m = r := ⟨(c % m).toNat, by
    have h2 := (escs_ok _ (List.mem_of_getElem? he)).2.1
    dsimp only at h2
    have := Int.emod_nonneg c (show (m : Int) ≠ 0 by omega)
    omega⟩
  exact cut_walk i side set m _ r z c B s0 s1 w hT hz'.1 (by omega) hi he hm hc'.1 (by omega) hr rfl
end Go.Proofs.YthdggdjaicfapaaDoor.U
