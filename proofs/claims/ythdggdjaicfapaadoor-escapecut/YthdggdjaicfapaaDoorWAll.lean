/- EscapeAll's walk: every escape is read wherever it stands. -/
import Derived.Test.YthdggdjaicfapaaDoorWReads2
namespace Go.Proofs.YthdggdjaicfapaaDoor.U
open Go.RowKit
set_option linter.unusedVariables false

section
variable {P : Program} {w : World}
theorem step_append {ops : Array Oper} {o : Oper} {a : Act} {K : Act → World → Prop} {Q : Exit → Act → World → Prop} {E : Prop} (hgd : o.guard = none) (s x : Operand) (t : TypeId)
    (ho : o.op = .call { callee := .builtin .append, args := #[s, x], argTypes := #[t, t] })
    {e : TypeId} {base : Nat} {i : TypeInfo} {z : Value} {bytes : Nat} (ht : P.underlying t = some (.slice e)) (hi : P.info? e = some i) (hz : i.zero = some z)
    (hsize : i.size = 1) (hby : i.bytes = bytes) (hzs : z.cells.size = 1) (hb8 : bytes ≤ 8)
    {k : IntKind} {v : Value} {xs : List Int} (hown : Own w base e k v xs) (hs : a.eval s = v)
    {B : Nat} {A : Option Addr} {m c : Nat} {ys : List Int} (hr : Rd w B k A ys) (hx : a.eval x = .slice A m c) (hm : ys.length = m) (hnil : A = none → c = 0)
    (hn : xs.length + m ≤ 100000) (hbase : base ≤ w.heap.size)
    (h : ∀ v' w', Own w' base e k v' (xs ++ ys) → Below base w w' → K (a.put o.dst v') w') :
    if Region.wanted o (yielded ops a.tmps) = true then Oper.wp P o a w K Q else E := by
  have hw : Region.wanted o (yielded ops a.tmps) = true := by simp [Region.wanted, hgd]
  rw [if_pos hw]
  exact wp_append s x t ho ht hi hz hsize hby hzs hb8 hown hs hr hx hm hnil hn hbase h
theorem step_append_own_str {ops : Array Oper} {o : Oper} {a : Act} {K : Act → World → Prop} {Q : Exit → Act → World → Prop} {E : Prop} (hgd : o.guard = none) (s x : Operand) (t u : TypeId)
    (ho : o.op = .call { callee := .builtin .append, args := #[s, x], argTypes := #[t, u] })
    {e : TypeId} {base : Nat} {i : TypeInfo} (ht : P.underlying t = some (.slice e)) (hu : P.underlying u = some .string) (hi : P.info? e = some i) (hz : i.zero = some (.int .u8 0))
    (hsize : i.size = 1) (hby : i.bytes = 1)
    {v : Value} {xs ys : List Int} (hown : Own w base e .u8 v xs) (hs : a.eval s = v) (hx : a.eval x = .string (str ys)) (hy : ∀ x ∈ ys, 0 ≤ x ∧ x < 256)
    (hn : xs.length + ys.length ≤ 100000) (hbase : base ≤ w.heap.size)
    (h : ∀ v' w', Own w' base e .u8 v' (xs ++ ys) → Below base w w' → K (a.put o.dst v') w') :
    if Region.wanted o (yielded ops a.tmps) = true then Oper.wp P o a w K Q else E := by
  have hw : Region.wanted o (yielded ops a.tmps) = true := by simp [Region.wanted, hgd]
  rw [if_pos hw]
  obtain ⟨v', w', hrun, h2, h3⟩ := run_append_own_str (P := P) (ty := o.type) ht hu hi hz hsize hby hown hy hn hbase
  unfold Oper.wp execOp
  simp only [ho, resolve, invoke, builtin, Sem.run_bind, Sem.run_pure, Result.andThen_ok, List.map_toArray, List.map_cons, List.map_nil, hs, hx, hrun]
  exact h v' w' h2 h3
end

theorem keepS {X w' : World} {b : Nat} {B : List Int} (hb : b < X.heap.size) (h : X.cell? ⟨b, 0, none⟩ = some (.string (str B))) (k : Below X.heap.size X w') : w'.cell? ⟨b, 0, none⟩ = some (.string (str B)) ∧ Below X.heap.size X w' :=
  ⟨(Below.cell k (p := ⟨b, 0, none⟩) hb).trans h, k⟩
set_option maxRecDepth 100000 in
set_option maxHeartbeats 8000000 in
theorem all_walk (i side set m : Nat) (z : Int) (A1 A2 : Option Addr) (n1 c1 n2 c2 : Nat) (l1 l2 B : List Int) (s0 s1 : Int) (w : World) (hT : Tb w)
    (hz0 : 0 ≤ z) (hz1 : z < 256) (hi : z % 40 = i) (he : escs[i]? = some (B, (side : Int), (set : Int))) (hm : B.length = m)
    (h1 : Rd w w.heap.size .u8 A1 l1) (hn1 : l1.length = n1) (hc1 : n1 ≤ c1) (hl1 : A1 = none → c1 = 0) (hb1 : ∀ x ∈ l1, 0 ≤ x ∧ x < 256)
    (h2 : Rd w w.heap.size .u8 A2 l2) (hn2 : l2.length = n2) (hc2 : n2 ≤ c2) (hl2 : A2 = none → c2 = 0) (hb2 : ∀ x ∈ l2, 0 ≤ x ∧ x < 256) (hle1 : n1 ≤ 100) (hle2 : n2 ≤ 100) :
    Calls Tryd.prog 5 #[.int .u8 z, .slice A1 n1 c1, .slice A2 n2 c2, .agg #[.int .i64 s0, .int .i64 s1]] w fun e w' => e = .returned (.bool true) ∧ Bel w w' := by
  obtain ⟨i0, hi0, hz0', hz1', hz2'⟩ := info_parts info5
  have q0 : ¬ (100 : Int) < (n1 : Int) := by omega
  have q1 : decide ((100 : Int) < (n2 : Int)) = false := decide_eq_false (by omega)
  have hi40 : i < 40 := by rw [← escs_len]; exact (List.getElem?_eq_some_iff.1 he).1
  have HT := Lib.hid hT
  have H1 := Lib.hid h1
  have N1 := Lib.hid hn1
  have B1 := Lib.hid hb1
  have L1 := Lib.hid hl1
  have H2 := Lib.hid h2
  have N2 := Lib.hid hn2
  have B2 := Lib.hid hb2
  have L2 := Lib.hid hl2
  have HE := Lib.hid he
  have HM := Lib.hid hm
  have HI := Lib.hid hi
  have HS := Lib.hid (Two.new w 24 s0 s1)
  have HBW : Hid (Bel w (w.alloc (.cells #[.int .i64 s0, .int .i64 s1] 24))) := Lib.hid ((Bel.refl w).alloc _)
  clear hT h1 hn1 hb1 hl1 h2 hn2 hb2 hl2 he hm hi
  go_enter Tryd.func5, Tryd.ntmps5
  go_wp2_with fail
  generalize hW : w.alloc (.cells #[.int .i64 s0, .int .i64 s1] 24) = W at HS HBW ⊢
  clear hW
  refine (escapes_is W).mono ?_
  rintro e u ⟨g, cap, rfl, hcap, hE, hbu⟩
  have HEc : Hid (Ec u g) := Lib.hid hE
  have HBU := Lib.hid (HBW.out.trans hbu)
  have HSU := Lib.hid (HS.out.bel hbu)
  clear hE hbu HBW HS
  obtain ⟨d0, d1, d2⟩ := HEc.out i _ HE.out
  dsimp only at d0 d1 d2
  have hrem : z.tmod 40 = i := by rw [← HI.out]; exact Int.tmod_eq_emod_of_nonneg hz0
  go_wp2_with fail
  generalize hX : u.alloc (Obj.cells #[Value.string (str B), Value.int IntKind.i64 side, Value.int IntKind.i64 set] 41) = X
  have x0 : X.cell? ⟨u.heap.size, 0, none⟩ = some (.string (str B)) := by rw [← hX]; simp [go_sem]
  have x1 : X.cell? ⟨u.heap.size, 1, none⟩ = some (.int .i64 side) := by rw [← hX]; simp [go_sem]
  have x2 : X.cell? ⟨u.heap.size, 2, none⟩ = some (.int .i64 set) := by rw [← hX]; simp [go_sem]
  have hbX : Bel w X := by rw [← hX]; exact HBU.out.alloc _
  have hbuX : Bel u X := by rw [← hX]; exact (Bel.refl u).alloc _
  have HSX := Lib.hid (HSU.out.bel hbuX)
  have hlt : u.heap.size < X.heap.size := cell_block x0
  have HBX := Lib.hid hbX
  clear hX hbX hbuX HSU HBU HEc d0 d1 d2 hrem
  generalize u.heap.size = b at *
  have X1 := Lib.hid x1
  have X2 := Lib.hid x2
  have X0 := Lib.hid x0
  clear x1 x2
  have HK := Lib.hid (show Below X.heap.size X (X.alloc (.cells #[] 5)).drew from ((Below.refl _ _).alloc (Nat.le_refl _) _).drew)
  have HO := Lib.hid (show Own (X.alloc (.cells #[] 5)).drew X.heap.size 5 .u8 (.slice (some ⟨X.heap.size, 0, none⟩) 0 0) [] from (Own.empty X 5 .u8).keep ((Bel.refl _).drew))
  have HR1 := Lib.hid (show Rd (X.alloc (.cells #[] 5)).drew w.heap.size .u8 A1 l1 from ((H1.out.bel HBX.out).bel (((Bel.refl X).alloc _).drew)))
  have hosz : X.heap.size ≤ (X.alloc (.cells #[] 5)).drew.heap.size := Below.size HK.out
  have HR2 := Lib.hid (H2.out.bel HBX.out)
  have hn1' : ([] : List Int).length + n1 ≤ 100000 := by simp; omega
  have hn2' : ([] ++ l1).length + B.length ≤ 100000 := by have := N1.out; have := HM.out; have := (escs_ok _ (List.mem_of_getElem? HE.out)).2.2.1; simp only [List.nil_append]; dsimp only at this; omega
  have hn3' : ([] ++ l1 ++ B).length + n2 ≤ 100000 := by have := N1.out; have := HM.out; have := (escs_ok _ (List.mem_of_getElem? HE.out)).2.2.1; simp only [List.nil_append, List.length_append]; dsimp only at this; omega
  have HBB := Lib.hid (escs_ok _ (List.mem_of_getElem? HE.out)).1
  have hle := Below.size HBX.out
  go_region_held3 (fun w' => w'.cell? ⟨b, 0, none⟩ = some (.string (str B)) ∧ Below X.heap.size X w')
    (first | assumption | exact keepS hlt X0.out ((Below.refl _ _).drew) | exact keepS hlt X0.out HK.out | exact keepS hlt X0.out (HK.out.trans hb3) | exact keepS hlt X0.out ((HK.out.trans hb3).trans hb4) | exact keepS hlt X0.out (((HK.out.trans hb3).trans hb4).trans hb5))
    (first
      | (refine step_append (by rfl) (.tmp 34) (.tmp 35) 22 (by rfl) Tryd.underlying22 hi0 hz0' hz1' hz2' rfl (by omega) HO.out (by rfl) HR1.out (by rfl) N1.out L1.out hn1' hosz ?_; intro v3 w3 hown3 hb3; have hs3 : X.heap.size ≤ w3.heap.size := Below.size (HK.out.trans hb3))
      | (refine step_append_own_str (by rfl) (.tmp 36) (.tmp 38) 22 9 (by rfl) Tryd.underlying22 Tryd.underlying9 hi0 hz0' hz1' hz2' hown3 (by rfl) (by rfl) HBB.out hn2' hs3 ?_; intro v4 w4 hown4 hb4; have hs4 : X.heap.size ≤ w4.heap.size := Below.size ((HK.out.trans hb3).trans hb4))
      | (refine step_append (by rfl) (.tmp 39) (.tmp 40) 22 (by rfl) Tryd.underlying22 hi0 hz0' hz1' hz2' rfl (by omega) hown4 (by rfl) ((HR2.out.below ((Below.mono HK.out hle).trans (Below.mono hb3 hle))).below (Below.mono hb4 hle)) (by rfl) N2.out L2.out hn3' hs4 ?_; intro v5 w5 hown5 hb5)
      | fail)
  have hX5 : Bel X w5 := ((HK.out.trans hb3).trans hb4).trans hb5
  obtain ⟨A5, c5, rfl, h5c, h5r, _⟩ := hown5.rd
  have hL5 : [] ++ l1 ++ B ++ l2 = l1 ++ (B ++ l2) := by simp
  rw [hL5] at h5c h5r ⊢
  obtain ⟨N5, hN5⟩ : ∃ N5, (l1 ++ (B ++ l2)).length = N5 := ⟨_, rfl⟩
  rw [hN5] at h5c ⊢
  have hside : (side : Int) = 0 ∨ (side : Int) = 1 := (escs_ok _ (List.mem_of_getElem? HE.out)).2.2.2.1.1
  have hout : ∀ y0 y1, newst s0 s1 side set = .agg #[.int .i64 y0, .int .i64 y1] → Outs (l1 ++ (B ++ l2)) (n1 : Int) s0 s1 y0 y1 m 0 0 := by
    intro y0 y1 hy
    have hd : (l1 ++ (B ++ l2)).drop n1 = B ++ l2 := by rw [← N1.out]; exact List.drop_left
    refine .inr ⟨n1, rfl, ?_, .inr ⟨side, set, ?_, hy, rfl, rfl⟩⟩
    · have h27 := escs_begin _ (List.mem_of_getElem? HE.out)
      dsimp only at h27
      rw [← N1.out, List.getElem?_append_right (Nat.le_refl _), Nat.sub_self, h27]
      rfl
    · rw [hd]
      exact ⟨B, List.mem_of_getElem? HE.out, HM.out, List.prefix_append _ _⟩
  have hbL : ∀ x ∈ l1 ++ (B ++ l2), 0 ≤ x ∧ x < 256 := by
    intro x hx
    rcases List.mem_append.1 hx with h | h
    · exact B1.out x h
    · rcases List.mem_append.1 h with h | h
      · exact HBB.out x h
      · exact B2.out x h
  have hN5' : N5 ≤ 9223372036854770000 := by
    rw [← hN5]
    simp only [List.nil_append, List.length_append] at hn3' ⊢
    have := N2.out
    omega
  have HB5 := Lib.hid (HBX.out.trans hX5)
  have HS5 := Lib.hid (HSX.out.bel hX5)
  have Y0 := Lib.hid ((Below.cell hX5 (p := ⟨b, 0, none⟩) hlt).trans X0.out)
  have Y1 := Lib.hid ((Below.cell hX5 (p := ⟨b, 1, none⟩) hlt).trans X1.out)
  have Y2 := Lib.hid ((Below.cell hX5 (p := ⟨b, 2, none⟩) hlt).trans X2.out)
  have hlt5 : b < w5.heap.size := cell_block Y0.out
  have hsz : (str B).size = m := by rw [str_size, HM.out]
  have HC : Hid (∀ y0 y1, newst s0 s1 side set = .agg #[.int .i64 y0, .int .i64 y1] → Calls Tryd.prog 8 #[.slice A5 N5 c5, .int .i64 n1, .agg #[.int .i64 s0, .int .i64 s1]] w5 (OutP w5 y0 y1 m 0 0)) := Lib.hid fun y0 y1 hy => next_out A5 N5 c5 _ n1 s0 s1 y0 y1 m 0 0 w5 (HT.out.bel HB5.out) h5r hN5 h5c hN5' hbL (hout y0 y1 hy)
  have hs5 : w.heap.size < w5.heap.size := cell_block HS5.out.1
  clear hown5 hown4 hown3 hb3 hb4 hb5 HK HO HR1 HR2 hn1' hn2' hn3' HBB hle hosz x0 X0 X1 X2 hlt hX5 h5c h5r hL5 hout hbL hN5 hN5' hs3 hs4 HSX HBX H1 H2 B1 B2 L1 L2 N1 N2 HE HM HI
  rcases hside with hs | hs
  · have HCC := Lib.hid (HC.out set s1 (by rw [newst, if_pos hs]))
    have hq : ((side : Int) == 0) = true := by rw [hs]; rfl
    clear HC hs
    obtain ⟨t0, t1, t2, t3⟩ := HS5.out
    go_wp2_with fail
    clear t0 t1 t2 t3
    with_reducible refine HCC.out.mono ?_
    rintro e w6 ⟨he6, hb6⟩
    subst he6
    obtain ⟨t0, t1, t2, t3⟩ := HS5.out.bel hb6
    have z0 := (Below.cell hb6 (p := ⟨b, 0, none⟩) hlt5).trans Y0.out
    have z1 := (Below.cell hb6 (p := ⟨b, 1, none⟩) hlt5).trans Y1.out
    have z2 := (Below.cell hb6 (p := ⟨b, 2, none⟩) hlt5).trans Y2.out
    have l6 : w.heap.size < w6.heap.size := cell_block t0
    have l7 : b < w6.heap.size := cell_block z0
    have HB6 := Lib.hid (HB5.out.trans hb6)
    have HZ0 := Lib.hid z0
    clear HCC hb6 Y0 Y1 Y2 hs5 hlt5
    have g3 := (((Bel.refl w6).alloc (.cells #[.int .i64 set, .int .i64 s1] 24)).alloc (.cells #[.int .i64 0, .int .i64 0] 28)).alloc (.cells #[.int .i64 s0, .int .i64 s1] 24)
    have g1 := (Below.cell g3 (p := ⟨b, 1, none⟩) l7).trans z1
    have g2 := (Below.cell g3 (p := ⟨b, 2, none⟩) l7).trans z2
    clear g3
    go_wp2_with fail
    clear g1 g2
    have G3 := Lib.hid ((((Bel.refl w6).alloc (.cells #[.int .i64 set, .int .i64 s1] 24)).alloc (.cells #[.int .i64 0, .int .i64 0] 28)).alloc (.cells #[.int .i64 set, .int .i64 s1] 24))
    have E1 := Lib.hid (((Two.new w6 24 set s1).bel ((Bel.refl _).alloc (.cells #[.int .i64 0, .int .i64 0] 28))).bel ((Bel.refl _).alloc (.cells #[.int .i64 set, .int .i64 s1] 24)))
    have E2 := Lib.hid ((Two.new (w6.alloc (.cells #[.int .i64 set, .int .i64 s1] 24)) 28 0 0).bel ((Bel.refl _).alloc (.cells #[.int .i64 set, .int .i64 s1] 24)))
    have E3 := Lib.hid (Two.new ((w6.alloc (.cells #[.int .i64 set, .int .i64 s1] 24)).alloc (.cells #[.int .i64 0, .int .i64 0] 28)) 24 set s1)
    have HTT := Lib.hid ((HT.out.bel HB6.out).bel G3.out)
    with_reducible refine (answers_any _ HTT.out).mono ?_
    rintro e w7 ⟨he7, hb7⟩
    subst he7
    have e1 := E1.out.bel hb7
    have e2 := E2.out.bel hb7
    have e3 := E3.out.bel hb7
    rw [show (w6.alloc (.cells #[.int .i64 set, .int .i64 s1] 24)).heap.size = w6.heap.size + 1 by simp] at e2
    rw [show ((w6.alloc (.cells #[.int .i64 set, .int .i64 s1] 24)).alloc (.cells #[.int .i64 0, .int .i64 0] 28)).heap.size = w6.heap.size + 1 + 1 by simp] at e3
    obtain ⟨e10, e11, _, _⟩ := e1
    obtain ⟨e20, e21, _, _⟩ := e2
    obtain ⟨e30, e31, _, _⟩ := e3
    have g0 := (Below.cell (G3.out.trans hb7) (p := ⟨b, 0, none⟩) l7).trans HZ0.out
    have HF := Lib.hid ((HB6.out.trans G3.out).trans hb7)
    clear E1 E2 E3 G3 HTT hb7 z0 z1 z2 t0 t1 t2 t3 HZ0 HB6
    go_wp2
    go_ret
    exact ⟨rfl, HF.out⟩
  · have HCC := Lib.hid (HC.out s0 set (by rw [newst, if_neg (by omega)]))
    have hq : ((side : Int) == 0) = false := by rw [hs]; rfl
    clear HC hs
    obtain ⟨t0, t1, t2, t3⟩ := HS5.out
    go_wp2_with fail
    clear t0 t1 t2 t3
    with_reducible refine HCC.out.mono ?_
    rintro e w6 ⟨he6, hb6⟩
    subst he6
    obtain ⟨t0, t1, t2, t3⟩ := HS5.out.bel hb6
    have z0 := (Below.cell hb6 (p := ⟨b, 0, none⟩) hlt5).trans Y0.out
    have z1 := (Below.cell hb6 (p := ⟨b, 1, none⟩) hlt5).trans Y1.out
    have z2 := (Below.cell hb6 (p := ⟨b, 2, none⟩) hlt5).trans Y2.out
    have l6 : w.heap.size < w6.heap.size := cell_block t0
    have l7 : b < w6.heap.size := cell_block z0
    have HB6 := Lib.hid (HB5.out.trans hb6)
    have HZ0 := Lib.hid z0
    clear HCC hb6 Y0 Y1 Y2 hs5 hlt5
    have g3 := (((Bel.refl w6).alloc (.cells #[.int .i64 s0, .int .i64 set] 24)).alloc (.cells #[.int .i64 0, .int .i64 0] 28)).alloc (.cells #[.int .i64 s0, .int .i64 s1] 24)
    have g1 := (Below.cell g3 (p := ⟨b, 1, none⟩) l7).trans z1
    have g2 := (Below.cell g3 (p := ⟨b, 2, none⟩) l7).trans z2
    clear g3
    go_wp2_with fail
    clear g1 g2
    have G3 := Lib.hid ((((Bel.refl w6).alloc (.cells #[.int .i64 s0, .int .i64 set] 24)).alloc (.cells #[.int .i64 0, .int .i64 0] 28)).alloc (.cells #[.int .i64 s0, .int .i64 set] 24))
    have E1 := Lib.hid (((Two.new w6 24 s0 set).bel ((Bel.refl _).alloc (.cells #[.int .i64 0, .int .i64 0] 28))).bel ((Bel.refl _).alloc (.cells #[.int .i64 s0, .int .i64 set] 24)))
    have E2 := Lib.hid ((Two.new (w6.alloc (.cells #[.int .i64 s0, .int .i64 set] 24)) 28 0 0).bel ((Bel.refl _).alloc (.cells #[.int .i64 s0, .int .i64 set] 24)))
    have E3 := Lib.hid (Two.new ((w6.alloc (.cells #[.int .i64 s0, .int .i64 set] 24)).alloc (.cells #[.int .i64 0, .int .i64 0] 28)) 24 s0 set)
    have HTT := Lib.hid ((HT.out.bel HB6.out).bel G3.out)
    with_reducible refine (answers_any _ HTT.out).mono ?_
    rintro e w7 ⟨he7, hb7⟩
    subst he7
    have e1 := E1.out.bel hb7
    have e2 := E2.out.bel hb7
    have e3 := E3.out.bel hb7
    rw [show (w6.alloc (.cells #[.int .i64 s0, .int .i64 set] 24)).heap.size = w6.heap.size + 1 by simp] at e2
    rw [show ((w6.alloc (.cells #[.int .i64 s0, .int .i64 set] 24)).alloc (.cells #[.int .i64 0, .int .i64 0] 28)).heap.size = w6.heap.size + 1 + 1 by simp] at e3
    obtain ⟨e10, e11, _, _⟩ := e1
    obtain ⟨e20, e21, _, _⟩ := e2
    obtain ⟨e30, e31, _, _⟩ := e3
    have g0 := (Below.cell (G3.out.trans hb7) (p := ⟨b, 0, none⟩) l7).trans HZ0.out
    have HF := Lib.hid ((HB6.out.trans G3.out).trans hb7)
    clear E1 E2 E3 G3 HTT hb7 z0 z1 z2 t0 t1 t2 t3 HZ0 HB6
    go_wp2
    go_ret
    exact ⟨rfl, HF.out⟩

theorem all_long (z : Int) (A1 A2 : Option Addr) (n1 c1 n2 c2 : Nat) (s0 s1 : Int) (w : World) (hT : Tb w) (hle : 100 < n1 ∨ 100 < n2) :
    Calls Tryd.prog 5 #[.int .u8 z, .slice A1 n1 c1, .slice A2 n2 c2, .agg #[.int .i64 s0, .int .i64 s1]] w fun e w' => e = .returned (.bool true) ∧ Bel w w' := by
  have HT := Lib.hid (hT.bel ((Bel.refl w).alloc (.cells #[.int .i64 s0, .int .i64 s1] 24)))
  clear hT
  by_cases h1 : 100 < n1
  · have q0 : (100 : Int) < (n1 : Int) := by omega
    clear hle
    go_enter Tryd.func5, Tryd.ntmps5
    go_wp2_with (go_at_call 7; (with_reducible refine (answers_any _ HT.out).mono ?_); rintro e w1 ⟨rfl, hb1⟩)
    go_ret
    exact ⟨rfl, ((Bel.refl w).alloc _).trans hb1⟩
  · have q0 : ¬ (100 : Int) < (n1 : Int) := by omega
    have q1 : (100 : Int) < (n2 : Int) := by omega
    clear hle
    go_enter Tryd.func5, Tryd.ntmps5
    go_wp2_with (go_at_call 7; (with_reducible refine (answers_any _ HT.out).mono ?_); rintro e w1 ⟨rfl, hb1⟩)
    go_ret
    exact ⟨rfl, ((Bel.refl w).alloc _).trans hb1⟩
theorem esc_of (z : Int) (h0 : 0 ≤ z) : ∃ i side set m : Nat, ∃ B : List Int, z % 40 = i ∧ escs[i]? = some (B, (side : Int), (set : Int)) ∧ B.length = m := by
  obtain ⟨i, hi⟩ : ∃ i : Nat, z % 40 = i := ⟨(z % 40).toNat, by omega⟩
  obtain ⟨⟨B, s, t⟩, he⟩ := escs_at (k := i) (by omega)
  have hok := (escs_ok _ (List.mem_of_getElem? he)).2.2.2.1
  dsimp only at hok
  obtain ⟨side, rfl⟩ : ∃ k : Nat, s = k := ⟨s.toNat, by have := hok.1; omega⟩
  obtain ⟨set, rfl⟩ : ∃ k : Nat, t = k := ⟨t.toNat, by have := hok.2.1; omega⟩
  exact ⟨i, side, set, _, B, hi, he, rfl⟩
theorem all_any (z : Int) (A1 A2 : Option Addr) (n1 c1 n2 c2 : Nat) (l1 l2 : List Int) (s0 s1 : Int) (w : World) (hT : Tb w) (hz : (Lit.int .u8 z).wf = true) (h1 : Came .u8 w A1 n1 c1 l1) (h2 : Came .u8 w A2 n2 c2 l2) :
    Calls Tryd.prog 5 #[.int .u8 z, .slice A1 n1 c1, .slice A2 n2 c2, .agg #[.int .i64 s0, .int .i64 s1]] w fun e w' => e = .returned (.bool true) ∧ Bel w w' := by
  by_cases hle : 100 < n1 ∨ 100 < n2
  · exact all_long z A1 A2 n1 c1 n2 c2 s0 s1 w hT hle
  · have hz' := bounds_u8 hz
    obtain ⟨i, side, set, m, B, hi, he, hm⟩ := esc_of z hz'.1
    obtain ⟨a1, a2, a3, a4, a5⟩ := h1
    obtain ⟨b1, b2, b3, b4, b5⟩ := h2
    exact all_walk i side set m z A1 A2 n1 c1 n2 c2 l1 l2 B s0 s1 w hT hz'.1 (by omega) hi he hm a3 a1 a2 a4 (wf_u8 a5) b3 b1 b2 b4 (wf_u8 b5) (by omega) (by omega)
end Go.Proofs.YthdggdjaicfapaaDoor.U
