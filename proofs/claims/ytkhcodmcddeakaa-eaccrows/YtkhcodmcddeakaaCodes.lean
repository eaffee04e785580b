/- What eacc.Codes answers of any character: the numbers of the chapter's runs that are it, rising, in a new list. No condition. -/
import Derived.Maps.AppendAt
import Derived.Test.YtkhcodmcddeakaaRune
namespace Go.Proofs.Ytkhcodmcddeakaa.U
open Go.RowKit Go.Shelf
set_option linter.unusedVariables false
attribute [local go_sem] Oper.semAt_some

/-- The marks of loops that are through, the newest one first. -/
def Dok (lo : Nat) (W : World) : Nat → List Deferred → Prop
  | _, [] => True
  | hi, d :: ds => ∃ D, d.target = .collected D ∧ lo ≤ D ∧ D < hi ∧ W.heap[D]? = some (.deferred (some [])) ∧ Dok lo W D ds
theorem Dok.mono {lo : Nat} {W W' : World} : ∀ {ds : List Deferred} {hi hi' : Nat}, Dok lo W hi ds → hi ≤ hi' → (∀ D, D < hi → W.heap[D]? = some (.deferred (some [])) → W'.heap[D]? = some (.deferred (some []))) → Dok lo W' hi' ds
  | [], _, _, _, _, _ => trivial
  | d :: ds, hi, hi', ⟨D, h1, h2, h3, h4, h5⟩, hh, hk => ⟨D, h1, h2, by omega, hk D h3 h4, h5.mono (Nat.le_refl _) (fun E hE => hk E (by omega))⟩
theorem leaves_all {F : Fence} {n : Nat} {P : Program} {fn : Func} {tmps : Array Value} {R : Ending → World → Prop} (lo : Nat) (X : World → Prop)
    (hX : ∀ W D o, X W → lo ≤ D → W.heap[D]? = some (.deferred (some [])) → X (W.putObj D o)) (hR : ∀ W, X W → LeavesIn F n P fn tmps R [] .returning W) :
    ∀ (ds : List Deferred) (hi : Nat) (W : World), Dok lo W hi ds → X W → LeavesInM F n P fn tmps R ds .returning W
  | [], _, W, _, hx => hR W hx
  | d :: ds, hi, W, ⟨D, h1, h2, h3, h4, h5⟩, hx => by
    refine ⟨by simp, .inl ⟨D, _, h1, run_takeDeferred h4, leaves_all lo X hX hR ds D _ (h5.mono (Nat.le_refl _) (fun E hE h => ?_)) (hX _ _ _ hx h2 h4)⟩⟩
    exact (World.putObj_heap_other (by omega)).trans h

/-- The list so far. -/
def CI (r : Int) (w : World) (l : List Int) (W : World) : Prop :=
  Boxed W w.heap.size 21 (.int .i32 r) ∧ (∃ v, Boxed W (w.heap.size + 1) 28 v ∧ W.ownsRow w.heap.size 3 1 v l.length (l.map (Value.int .i64))) ∧ Bel w W
theorem own_iter {W : World} {base : Nat} {e : TypeId} {v : Value} {k : Nat} {xs : List Value} (h : W.ownsRow base e 1 v k xs) {G : Nat} {s : ByteArray} {p : Nat} (p' : Nat) (hs : W.heap[G]? = some (.stringIter s p)) : (W.iterAt G s p').ownsRow base e 1 v k xs := by
  refine ⟨h.1, ?_⟩
  rcases h.2 with h | ⟨g, cap, cur, hv, hbg, hg, rest⟩
  · exact .inl h
  · refine .inr ⟨g, cap, cur, hv, hbg, ?_, rest⟩
    rw [Lib.iterAt_other W G g s p' (fun e => by rw [e, hs] at hg; cases hg)]
    exact hg
theorem CI.alloc {r : Int} {w W : World} {l : List Int} (h : CI r w l W) (o : Obj) : CI r w l (W.alloc o) := by
  obtain ⟨h1, ⟨v, h2, h3⟩, h4⟩ := h
  exact ⟨h1.alloc o, ⟨v, h2.alloc o, h3.alloc o⟩, h4.alloc o⟩
theorem CI.put {r : Int} {w W : World} {l : List Int} (h : CI r w l W) {L : Nat} {x : Obj} (o : Obj) (hl : W.heap[L]? = some x) (hx : x.isCells = false) (hw : w.heap.size ≤ L) : CI r w l (W.putObj L o) := by
  obtain ⟨h1, ⟨v, h2, h3⟩, h4⟩ := h
  have n1 : w.heap.size ≠ L := fun e => by rw [← e, show W.heap[w.heap.size]? = _ from h1] at hl; cases hl; cases hx
  have n2 : w.heap.size + 1 ≠ L := fun e => by rw [← e, show W.heap[w.heap.size + 1]? = _ from h2] at hl; cases hl; cases hx
  exact ⟨boxed_put h1 n1 o, ⟨v, boxed_put h2 n2 o, ownsRow_putObj h3 o hl hx⟩, bel_put h4 hw o⟩
theorem CI.iter {r : Int} {w W : World} {l : List Int} (h : CI r w l W) {G : Nat} {s : ByteArray} {p : Nat} (p' : Nat) (hs : W.heap[G]? = some (.stringIter s p)) (hw : w.heap.size ≤ G) : CI r w l (W.iterAt G s p') := by
  obtain ⟨h1, ⟨v, h2, h3⟩, h4⟩ := h
  have n1 : w.heap.size ≠ G := fun e => by rw [← e, show W.heap[w.heap.size]? = _ from h1] at hs; cases hs
  have n2 : w.heap.size + 1 ≠ G := fun e => by rw [← e, show W.heap[w.heap.size + 1]? = _ from h2] at hs; cases hs
  exact ⟨boxed_iter h1 n1 s p', ⟨v, boxed_iter h2 n2 s p', own_iter h3 p' hs⟩, Lib.below_iterAt h4 hw s p'⟩

theorem tab_short : ∀ k, k < 10 → (tab k).length ≤ 200 := by decide +kernel
theorem sel_short (r : Int) (l : List (Int × Int)) : (sel r l).length ≤ l.length := by
  unfold sel
  rw [List.length_map]
  exact List.length_filter_le _ _
theorem codesL_short (r : Int) : ∀ k, k ≤ 10 → (codesL r k).length ≤ 200 * k
  | 0, _ => by simp [codesL]
  | k + 1, h => by
    have h1 := codesL_short r k (by omega)
    have h2 := tab_short k (by omega)
    have h3 := sel_short r (tab k)
    simp only [codesL, List.length_append]
    omega
theorem sel_hit (r : Int) (pre : List (Int × Int)) {x : Int × Int} (h : x.2 = r) : sel r (pre ++ [x]) = sel r pre ++ [x.1] := by simp [sel, h]
theorem sel_miss (r : Int) (pre : List (Int × Int)) {x : Int × Int} (h : ¬ x.2 = r) : sel r (pre ++ [x]) = sel r pre := by simp [sel, h]
theorem int3 : (Try.prog.info? 3).map (fun i => (i.zero, i.size, i.bytes)) = some (some (.int .i64 0), 1, 8) := by kernel_rfl

/-- Between two rounds. -/
def IC (r : Int) (w : World) (l : List Int) (hi : Nat) (ds : List Deferred) (pre : List (Int × Int)) (W : World) : Prop := CI r w (l ++ sel r pre) W ∧ Dok w.heap.size W hi ds

/-- Between two runs. -/
def InvC (V : Array Value) (r : Int) (w : World) (a : Act) (W : World) : Prop :=
  ∃ (k : Nat) (ds : List Deferred) (u5 u10 u11 u12 u13 u23 : Value), k ≤ 10 ∧ a = { tmps := #[.int .i32 r, .pointer (some ⟨w.heap.size, 0, none⟩), .slice none 0 0, .pointer (some ⟨w.heap.size + 1, 0, none⟩), undef, u5, undef, undef, .agg V, .int .i64 k, u10, u11, u12, u13, undef, undef, undef, undef, undef, undef, undef, undef, undef, u23, undef], defers := ds } ∧ CI r w (codesL r k) W ∧ Dok w.heap.size W W.heap.size ds

set_option maxRecDepth 100000 in
set_option maxHeartbeats 2000000 in
theorem codes_is (r : Int) (w : World) : Calls Try.prog 8 #[.int .i32 r] w fun e w' => ∃ v, e = .returned v ∧ Own w' w.heap.size 3 .i64 v (codesL r 10) ∧ Bel w w' := by
  have HR := Lib.hid runs_is
  have HI := Lib.hid (fun k (hk : k < 10) w => index_at (strAt Try.f11) hk w)
  have HG := Lib.hid (fun k (hk : k < 10) => good hk)
  generalize strAt Try.f11 = S at HR HI HG
  generalize rcs S = V at HR HI
  refine (callsIn_wide (n := 4)).1 ?_
  refine callsIn_of_wp_marks Try.func8 rfl trivial ?_ rfl
  simp only [Try.ntmps8, List.size_toArray, List.length_cons, List.length_nil, Nat.reduceAdd, Nat.reduceSub, Array.replicate_succ, Array.replicate_zero, List.push_toArray, List.append_toArray, List.nil_append, List.cons_append]
  gi_wp2_with fail
  refine ⟨trivial, ?_⟩
  gi_at_call 11
  refine (callsIn_wide.2 (HR.out _)).mono ?_
  rintro e w2 ⟨rfl, hb2⟩
  have b1 : Boxed ((w.alloc (.cells #[.int .i32 r] 21)).alloc (.cells #[.slice none 0 0] 28)) w.heap.size 21 (.int .i32 r) := (Boxed.new w 21 _).alloc _
  have b2 : Boxed ((w.alloc (.cells #[.int .i32 r] 21)).alloc (.cells #[.slice none 0 0] 28)) (w.heap.size + 1) 28 (.slice none 0 0) := by
    have h := Boxed.new (w.alloc (.cells #[.int .i32 r] 21)) 28 (.slice none 0 0)
    rwa [World.size_alloc] at h
  have HC := Lib.hid (⟨boxed_bel b1 hb2, ⟨_, boxed_bel b2 hb2, World.ownsRow_nil _ _ _ _⟩, (((Bel.refl w).alloc _).alloc _).trans hb2⟩ : CI r w (codesL r 0) w2)
  clear b1 b2 hb2
  gi_wp2_with fail
  refine wpIn_loop (InvC V r w) (fun a _ => 10 - (intOf (a.tmps.getD 9 undef)).toNat) ?_ ?_
  · exact ⟨0, [], _, _, _, _, _, _, by omega, rfl, HC.out, trivial⟩
  rintro a W ⟨k, ds, u5, u10, u11, u12, u13, u23, hk, rfl, hC, hD⟩
  have HC := Lib.hid hC
  have HD := Lib.hid hD
  clear hC hD
  by_cases hlk : k < 10
  · have hix := fun w => HI.out k hlk w
    obtain ⟨hg1, hg2⟩ := HG.out k hlk
    have HTB := Lib.hid (show tab k = codesOf (fst k) (decs (S k) (S k).size 0) by rw [hg1]; rfl)
    have HTS := Lib.hid hg2
    have HF := Lib.hid (fst_range k hlk)
    have HLT := Lib.hid (tab_short k hlk)
    have HLL := Lib.hid (codesL_short r k hk)
    have HL1 := Lib.hid (show codesL r (k + 1) = codesL r k ++ sel r (tab k) from rfl)
    clear hg1 hg2
    generalize fst k = f at hix HTB HF
    generalize S k = T at hix HTB HTS
    generalize alt k = b at hix
    generalize tab k = tb at HTB HLT HL1
    generalize codesL r k = done at HC HLL HL1
    gi_wp2_with fail
    have HC2 := Lib.hid (HC.out.alloc (.cells #[.int .i64 f, .string T, .bool b] 33))
    have HD2 := Lib.hid (HD.out.mono (W' := W.alloc (.cells #[.int .i64 f, .string T, .bool b] 33)) (hi' := (W.alloc (.cells #[.int .i64 f, .string T, .bool b] 33)).heap.size) (by simp) (fun D hD h => (Lib.alloc_old W _ D hD).trans h))
    clear hix
    generalize hWz : W.alloc (.cells #[.int .i64 f, .string T, .bool b] 33) = Wz at HC2 HD2 ⊢
    generalize hWs : W.heap.size = Ws
    clear hWz
    have HZ := Lib.hid (show w.heap.size ≤ Wz.heap.size from Below.size HC2.out.2.2)
    refine range_codes tb (by decide) rfl (enters_of Try.func10 (by kernel_rfl) rfl) rfl (IC r w done Wz.heap.size ds) (fun _ => False)
      (fun pre X o L h hl => ⟨h.1.put o hl rfl (by have := HZ.out; omega), h.2.mono (Nat.le_refl _) (fun D hD h => (World.putObj_heap_other (by omega)).trans h)⟩) (fun _ _ _ h _ => h)
      (fun pre X o h => ⟨h.1.alloc o, h.2.mono (Nat.le_refl _) (fun D hD h => (Lib.alloc_old X _ D (Array.getElem?_eq_some_iff.1 h).1).trans h)⟩)
      (fun pre X G s p p' h hG hs => ⟨h.1.iter p' hs (by have := HZ.out; omega), h.2.mono (Nat.le_refl _) (fun D hD h => (Lib.iterAt_other X G D s p' (by omega)).trans h)⟩)
      ⟨by simpa [sel] using HC2.out, HD2.out⟩
      (fun x => { tmps := #[.int .i32 r, .pointer (some ⟨w.heap.size, 0, none⟩), .slice none 0 0, .pointer (some ⟨w.heap.size + 1, 0, none⟩), undef, .pointer (some ⟨Ws, 0, none⟩), .int .i64 x.1, .int .i32 x.2, .agg V, .int .i64 k, .bool true, .agg #[.int .i64 f, .string T, .bool b], .agg #[.int .i64 f, .string T, .bool b], .func (.func 10) #[.agg #[.int .i64 f, .string T, .bool b]] #[], .int .i64 x.1, .int .i32 x.2, undef, undef, undef, undef, undef, undef, undef, u23, undef], defers := [] }) ?assign ?body ?it ?done ?stop
    case assign =>
      intro l x X K hK
      gi_wp2
      exact hK
    case it =>
      intro J Jx hJa hJi hY X hl hj
      exact codes_in 3 _ (by decide) f T b HF.out HTS.out tb HTB.out (Wz.heap.size + 2) J Jx hJa hJi hY X hl (by omega) hj
    case body =>
      rintro l pre x X ⟨⟨hb1, ⟨v, hv, hrow⟩, hB⟩, hDk⟩ hx
      have hlen : (done ++ sel r pre).length ≤ 3000 := by
        obtain ⟨rest, hr⟩ := hx
        have h1 := HLL.out
        have h2 := HLT.out
        have h3 := sel_short r pre
        rw [hr] at h2
        simp only [List.length_append] at h2 ⊢
        omega
      have hc1 := hb1.cell
      have hc2 := hv.cell
      have HDK := Lib.hid hDk
      obtain ⟨i0, hi, hz0, hz1, hz2⟩ := info_parts int3
      clear hx
      by_cases hxr : x.2 = r
      · have hxb : (x.2 == r) = true := by simpa using hxr
        have HX := Lib.hid hxr
        clear hxr
        gi_wp2_with (gi_at_builtin; refine wpListIn_append_own _ rfl _ _ 28 rfl w.heap.size 3 i0 (.int .i64 0) 1 8 Try.underlying28 hi hz0 hz1 hz2 rfl (by decide) _ _ _ rfl (hrow.alloc _) ⟨X.heap.size, 0, none⟩ 1 1 [.int .i64 x.1] rfl rfl (cell_one_new _ _ _) (by simp [Value.oneCell']) (by simp only [maxLen]; omega) (by omega) (by have := hB.size; simp; omega) ?_; intro v' w1 hown' hgrow _; obtain ⟨g', cap', rfl⟩ := ownsRow_succ hown'; obtain ⟨hv1, hv2, hr2, hk2, hb2⟩ := hv.appended (by decide) hrow hB.size (by omega) hown' hgrow; have hc3 := hv1.cell; have hf3 := hv1.frozen)
        have q1 : Boxed w1 w.heap.size 21 (.int .i32 r) := (hb1.alloc _).kept hgrow (hb1.not_row (by decide) hrow)
        simp only [List.length_append] at hv2 hr2 hk2 hb2
        refine ⟨hk2, ⟨q1.other (by omega) _, ⟨_, hv2, ?_⟩, Below.trans hB hb2⟩, HDK.out.mono (Nat.le_refl _) (fun D hD h => hk2.same _ _ h rfl)⟩
        rw [sel_hit r pre HX.out]
        simpa [List.length_append, Nat.add_assoc] using hr2
      · have hxb : (x.2 == r) = false := by simpa using hxr
        have HX := Lib.hid hxr
        clear hxr
        gi_wp2
        refine ⟨KeepsOthers.refl _, ⟨hb1, ⟨v, hv, ?_⟩, hB⟩, HDK.out⟩
        rw [sel_miss r pre HX.out]
        exact hrow
    case done =>
      rintro W' ⟨hC', hD'⟩ hK
      have HL := Lib.hid (Array.getElem?_eq_some_iff.1 hK).1
      have HK := Lib.hid hK
      have HC3 := Lib.hid hC'
      have HD3 := Lib.hid hD'
      clear hK hC' hD'
      gi_wp2
      refine ⟨⟨k + 1, _, _, _, _, _, _, _, by omega, rfl, ?_, ?_⟩, ?_⟩
      · rw [HL1.out]
        exact HC3.out
      · exact ⟨Wz.heap.size, rfl, HZ.out, HL.out, HK.out, HD3.out⟩
      · simp [intOf]
        omega
    case stop =>
      intro W' h
      exact h.elim
  · obtain rfl : k = 10 := by omega
    obtain ⟨hb1, ⟨v, hv, hrow⟩, hB⟩ := HC.out
    have hc2 := hv.cell
    have HRO := Lib.hid hrow
    have HB := Lib.hid hB
    clear hb1 hv hrow hB
    gi_wp2_with fail
    exact leaves_all w.heap.size (fun X => Own X w.heap.size 3 .i64 v (codesL r 10) ∧ Bel w X)
      (fun X D o h hD hd => ⟨ownsRow_putObj h.1 o hd rfl, bel_put h.2 hD o⟩) (fun X h => ⟨_, results_tmp rfl _ _ _, v, rfl, h.1, h.2⟩) ds _ W HD.out ⟨HRO.out, HB.out⟩
end Go.Proofs.Ytkhcodmcddeakaa.U
