/- What eacc.Codes answers of any character: the numbers of the chapter's runs that are it, rising, in a new list. No condition. What glyph.Rune answers of any code of the twelve sets. Tables as they are laid. What glyph's functions ask of the listed variables; glyph.Size; glyph.row and glyph.every. What the test of the search, the search by halves and a row's own method answer. What sort.Search answers, of a test that only draws. What a row's own method answers. What class.Of and class.Mark answer, where the table of spans lies in its variable. Numbers of several bytes: bits as sums; what read's functions ask of the listed variables. -/
import Derived.Maps.AppendAt
import Derived.Test.YtphnahabonfmmaaGreatDoorM4
import Derived.Test.YtphnahabonfmmaaGreatDoorM1
import Derived.Test.YtphnahabonfmmaaGreatDoorChecked
import Derived.LoopN
import Derived.Deep.MidRow
import Derived.Shelf.Abstract
import Derived.Test.YtphnahabonfmmaaGreatDoorM2
import Derived.Laws.BitsAllLaws
import Derived.Laws.Entries
namespace Go.Proofs.YtphnahabonfmmaaGreatDoor.E
open Go.RowKit Go.Shelf U
set_option linter.unusedVariables false
attribute [local go_sem] Oper.semAt_some

/-- The marks of loops that are through, the newest one first. -/
def Dok (lo : Nat) (W : World) : Nat → List Deferred → Prop
  | _, [] => True
  | hi, d :: ds => ∃ D, d.target = .collected D ∧ lo ≤ D ∧ D < hi ∧ W.heap[D]? = some (.deferred (some [])) ∧ Dok lo W D ds
theorem Dok.mono {lo : Nat} {W W' : World} : ∀ {ds : List Deferred} {hi hi' : Nat}, Dok lo W hi ds → hi ≤ hi' → (∀ D, D < hi → W.heap[D]? = some (.deferred (some [])) → W'.heap[D]? = some (.deferred (some []))) → Dok lo W' hi' ds
  | [], _, _, _, _, _ => trivial
  | d :: ds, hi, hi', ⟨D, h1, h2, h3, h4, h5⟩, hh, hk => ⟨D, h1, h2, by omega, hk D h3 h4, h5.mono (Nat.le_refl _) (fun E hE => hk E (by omega))⟩
theorem leaves_all {F : Fence} {n : Nat} {P : Program} {fn : Func} {tmps : Array Value} {R : Ending → World → Prop} (lo : Nat) (X : World → Prop)
    (hX : ∀ W D o, X W → lo ≤ D → W.heap[D]? = some (.deferred (some [])) → X (W.putObj D o)) (hR : ∀ W, X W → LeavesIn F n P fn tmps R [] .returning W) :
    ∀ (ds : List Deferred) (hi : Nat) (W : World), Dok lo W hi ds → X W → LeavesInM F n P fn tmps R ds .returning W
  | [], _, W, _, hx => hR W hx
  | d :: ds, hi, W, ⟨D, h1, h2, h3, h4, h5⟩, hx => by
    refine ⟨by simp, .inl ⟨D, _, h1, run_takeDeferred h4, leaves_all lo X hX hR ds D _ (h5.mono (Nat.le_refl _) (fun E hE h => ?_)) (hX _ _ _ hx h2 h4)⟩⟩
    exact (World.putObj_heap_other (by omega)).trans h

/-- The list so far. -/
def CI (r : Int) (w : World) (l : List Int) (W : World) : Prop :=
  Boxed W w.heap.size 21 (.int .i32 r) ∧ (∃ v, Boxed W (w.heap.size + 1) 77 v ∧ W.ownsRow w.heap.size 3 1 v l.length (l.map (Value.int .i64))) ∧ Bel w W
theorem own_iter {W : World} {base : Nat} {e : TypeId} {v : Value} {k : Nat} {xs : List Value} (h : W.ownsRow base e 1 v k xs) {G : Nat} {s : ByteArray} {p : Nat} (p' : Nat) (hs : W.heap[G]? = some (.stringIter s p)) : (W.iterAt G s p').ownsRow base e 1 v k xs := by
  refine ⟨h.1, ?_⟩
  rcases h.2 with h | ⟨g, cap, cur, hv, hbg, hg, rest⟩
  · exact .inl h
  · refine .inr ⟨g, cap, cur, hv, hbg, ?_, rest⟩
    rw [Lib.iterAt_other W G g s p' (fun e => by rw [e, hs] at hg; cases hg)]
    exact hg
theorem CI.alloc {r : Int} {w W : World} {l : List Int} (h : CI r w l W) (o : Obj) : CI r w l (W.alloc o) := by
  obtain ⟨h1, ⟨v, h2, h3⟩, h4⟩ := h
  exact ⟨h1.alloc o, ⟨v, h2.alloc o, h3.alloc o⟩, h4.alloc o⟩
theorem CI.put {r : Int} {w W : World} {l : List Int} (h : CI r w l W) {L : Nat} {x : Obj} (o : Obj) (hl : W.heap[L]? = some x) (hx : x.isCells = false) (hw : w.heap.size ≤ L) : CI r w l (W.putObj L o) := by
  obtain ⟨h1, ⟨v, h2, h3⟩, h4⟩ := h
  have n1 : w.heap.size ≠ L := fun e => by rw [← e, show W.heap[w.heap.size]? = _ from h1] at hl; cases hl; cases hx
  have n2 : w.heap.size + 1 ≠ L := fun e => by rw [← e, show W.heap[w.heap.size + 1]? = _ from h2] at hl; cases hl; cases hx
  exact ⟨boxed_put h1 n1 o, ⟨v, boxed_put h2 n2 o, ownsRow_putObj h3 o hl hx⟩, bel_put h4 hw o⟩
theorem CI.iter {r : Int} {w W : World} {l : List Int} (h : CI r w l W) {G : Nat} {s : ByteArray} {p : Nat} (p' : Nat) (hs : W.heap[G]? = some (.stringIter s p)) (hw : w.heap.size ≤ G) : CI r w l (W.iterAt G s p') := by
  obtain ⟨h1, ⟨v, h2, h3⟩, h4⟩ := h
  have n1 : w.heap.size ≠ G := fun e => by rw [← e, show W.heap[w.heap.size]? = _ from h1] at hs; cases hs
  have n2 : w.heap.size + 1 ≠ G := fun e => by rw [← e, show W.heap[w.heap.size + 1]? = _ from h2] at hs; cases hs
  exact ⟨boxed_iter h1 n1 s p', ⟨v, boxed_iter h2 n2 s p', own_iter h3 p' hs⟩, Lib.below_iterAt h4 hw s p'⟩

theorem tab_short : ∀ k, k < 10 → (tab k).length ≤ 200 := by decide +kernel
theorem sel_short (r : Int) (l : List (Int × Int)) : (sel r l).length ≤ l.length := by
  unfold sel
  rw [List.length_map]
  exact List.length_filter_le _ _
theorem codesL_short (r : Int) : ∀ k, k ≤ 10 → (codesL r k).length ≤ 200 * k
  | 0, _ => by simp [codesL]
  | k + 1, h => by
    have h1 := codesL_short r k (by omega)
    have h2 := tab_short k (by omega)
    have h3 := sel_short r (tab k)
    simp only [codesL, List.length_append]
    omega
theorem sel_hit (r : Int) (pre : List (Int × Int)) {x : Int × Int} (h : x.2 = r) : sel r (pre ++ [x]) = sel r pre ++ [x.1] := by simp [sel, h]
theorem sel_miss (r : Int) (pre : List (Int × Int)) {x : Int × Int} (h : ¬ x.2 = r) : sel r (pre ++ [x]) = sel r pre := by simp [sel, h]
theorem int3 : (Tryz.prog.info? 3).map (fun i => (i.zero, i.size, i.bytes)) = some (some (.int .i64 0), 1, 8) := by kernel_rfl

/-- Between two rounds. -/
def IC (r : Int) (w : World) (l : List Int) (hi : Nat) (ds : List Deferred) (pre : List (Int × Int)) (W : World) : Prop := CI r w (l ++ sel r pre) W ∧ Dok w.heap.size W hi ds

/-- Between two runs. -/
def InvC (V : Array Value) (r : Int) (w : World) (a : Act) (W : World) : Prop :=
  ∃ (k : Nat) (ds : List Deferred) (u5 u10 u11 u12 u13 u23 : Value), k ≤ 10 ∧ a = { tmps := #[.int .i32 r, .pointer (some ⟨w.heap.size, 0, none⟩), .slice none 0 0, .pointer (some ⟨w.heap.size + 1, 0, none⟩), undef, u5, undef, undef, .agg V, .int .i64 k, u10, u11, u12, u13, undef, undef, undef, undef, undef, undef, undef, undef, undef, u23, undef], defers := ds } ∧ CI r w (codesL r k) W ∧ Dok w.heap.size W W.heap.size ds

set_option maxRecDepth 100000 in
set_option maxHeartbeats 2000000 in
theorem codes_is (r : Int) (w : World) : Calls Tryz.prog 37 #[.int .i32 r] w fun e w' => ∃ v, e = .returned v ∧ U.Own w' w.heap.size 3 .i64 v (codesL r 10) ∧ Bel w w' := by
  have HR := Lib.hid runs_is
  have HI := Lib.hid (fun k (hk : k < 10) w => index_at (strAt Tryz.f58) hk w)
  have HG := Lib.hid (fun k (hk : k < 10) => good hk)
  generalize strAt Tryz.f58 = S at HR HI HG
  generalize rcs S = V at HR HI
  refine (callsIn_wide (n := 4)).1 ?_
  refine callsIn_of_wp_marks Tryz.func37 rfl trivial ?_ rfl
  simp only [Tryz.ntmps37, List.size_toArray, List.length_cons, List.length_nil, Nat.reduceAdd, Nat.reduceSub, Array.replicate_succ, Array.replicate_zero, List.push_toArray, List.append_toArray, List.nil_append, List.cons_append]
  gi_wp2_with fail
  refine ⟨trivial, ?_⟩
  gi_at_call 58
  refine (callsIn_wide.2 (HR.out _)).mono ?_
  rintro e w2 ⟨rfl, hb2⟩
  have b1 : Boxed ((w.alloc (.cells #[.int .i32 r] 21)).alloc (.cells #[.slice none 0 0] 77)) w.heap.size 21 (.int .i32 r) := (Boxed.new w 21 _).alloc _
  have b2 : Boxed ((w.alloc (.cells #[.int .i32 r] 21)).alloc (.cells #[.slice none 0 0] 77)) (w.heap.size + 1) 77 (.slice none 0 0) := by
    have h := Boxed.new (w.alloc (.cells #[.int .i32 r] 21)) 77 (.slice none 0 0)
    rwa [World.size_alloc] at h
  have HC := Lib.hid (⟨boxed_bel b1 hb2, ⟨_, boxed_bel b2 hb2, World.ownsRow_nil _ _ _ _⟩, (((Bel.refl w).alloc _).alloc _).trans hb2⟩ : CI r w (codesL r 0) w2)
  clear b1 b2 hb2
  gi_wp2_with fail
  refine wpIn_loop (InvC V r w) (fun a _ => 10 - (intOf (a.tmps.getD 9 undef)).toNat) ?_ ?_
  · exact ⟨0, [], _, _, _, _, _, _, by omega, rfl, HC.out, trivial⟩
  rintro a W ⟨k, ds, u5, u10, u11, u12, u13, u23, hk, rfl, hC, hD⟩
  have HC := Lib.hid hC
  have HD := Lib.hid hD
  clear hC hD
  by_cases hlk : k < 10
  · have hix := fun w => HI.out k hlk w
    obtain ⟨hg1, hg2⟩ := HG.out k hlk
    have HTB := Lib.hid (show tab k = codesOf (fst k) (decs (S k) (S k).size 0) by rw [hg1]; rfl)
    have HTS := Lib.hid hg2
    have HF := Lib.hid (fst_range k hlk)
    have HLT := Lib.hid (tab_short k hlk)
    have HLL := Lib.hid (codesL_short r k hk)
    have HL1 := Lib.hid (show codesL r (k + 1) = codesL r k ++ sel r (tab k) from rfl)
    clear hg1 hg2
    generalize fst k = f at hix HTB HF
    generalize S k = T at hix HTB HTS
    generalize alt k = b at hix
    generalize tab k = tb at HTB HLT HL1
    generalize codesL r k = done at HC HLL HL1
    gi_wp2_with fail
    have HC2 := Lib.hid (HC.out.alloc (.cells #[.int .i64 f, .string T, .bool b] 104))
    have HD2 := Lib.hid (HD.out.mono (W' := W.alloc (.cells #[.int .i64 f, .string T, .bool b] 104)) (hi' := (W.alloc (.cells #[.int .i64 f, .string T, .bool b] 104)).heap.size) (by simp) (fun D hD h => (Lib.alloc_old W _ D hD).trans h))
    clear hix
    generalize hWz : W.alloc (.cells #[.int .i64 f, .string T, .bool b] 104) = Wz at HC2 HD2 ⊢
    generalize hWs : W.heap.size = Ws
    clear hWz
    have HZ := Lib.hid (show w.heap.size ≤ Wz.heap.size from Below.size HC2.out.2.2)
    refine range_codes tb (by decide) rfl (enters_of Tryz.func59 (by kernel_rfl) rfl) rfl (IC r w done Wz.heap.size ds) (fun _ => False)
      (fun pre X o L h hl => ⟨h.1.put o hl rfl (by have := HZ.out; omega), h.2.mono (Nat.le_refl _) (fun D hD h => (World.putObj_heap_other (by omega)).trans h)⟩) (fun _ _ _ h _ => h)
      (fun pre X o h => ⟨h.1.alloc o, h.2.mono (Nat.le_refl _) (fun D hD h => (Lib.alloc_old X _ D (Array.getElem?_eq_some_iff.1 h).1).trans h)⟩)
      (fun pre X G s p p' h hG hs => ⟨h.1.iter p' hs (by have := HZ.out; omega), h.2.mono (Nat.le_refl _) (fun D hD h => (Lib.iterAt_other X G D s p' (by omega)).trans h)⟩)
      ⟨by simpa [sel] using HC2.out, HD2.out⟩
      (fun x => { tmps := #[.int .i32 r, .pointer (some ⟨w.heap.size, 0, none⟩), .slice none 0 0, .pointer (some ⟨w.heap.size + 1, 0, none⟩), undef, .pointer (some ⟨Ws, 0, none⟩), .int .i64 x.1, .int .i32 x.2, .agg V, .int .i64 k, .bool true, .agg #[.int .i64 f, .string T, .bool b], .agg #[.int .i64 f, .string T, .bool b], .func (.func 59) #[.agg #[.int .i64 f, .string T, .bool b]] #[], .int .i64 x.1, .int .i32 x.2, undef, undef, undef, undef, undef, undef, undef, u23, undef], defers := [] }) ?assign ?body ?it ?done ?stop
    case assign =>
      intro l x X K hK
      gi_wp2
      exact hK
    case it =>
      intro J Jx hJa hJi hY X hl hj
      exact codes_in 3 _ (by decide) f T b HF.out HTS.out tb HTB.out (Wz.heap.size + 2) J Jx hJa hJi hY X hl (by omega) hj
    case body =>
      rintro l pre x X ⟨⟨hb1, ⟨v, hv, hrow⟩, hB⟩, hDk⟩ hx
      have hlen : (done ++ sel r pre).length ≤ 3000 := by
        obtain ⟨rest, hr⟩ := hx
        have h1 := HLL.out
        have h2 := HLT.out
        have h3 := sel_short r pre
        rw [hr] at h2
        simp only [List.length_append] at h2 ⊢
        omega
      have hc1 := hb1.cell
      have hc2 := hv.cell
      have HDK := Lib.hid hDk
      obtain ⟨i0, hi, hz0, hz1, hz2⟩ := info_parts int3
      clear hx
      by_cases hxr : x.2 = r
      · have hxb : (x.2 == r) = true := by simpa using hxr
        have HX := Lib.hid hxr
        clear hxr
        gi_wp2_with (gi_at_builtin; refine wpListIn_append_own _ rfl _ _ 77 rfl w.heap.size 3 i0 (.int .i64 0) 1 8 Tryz.underlying77 hi hz0 hz1 hz2 rfl (by decide) _ _ _ rfl (hrow.alloc _) ⟨X.heap.size, 0, none⟩ 1 1 [.int .i64 x.1] rfl rfl (cell_one_new _ _ _) (by simp [Value.oneCell']) (by simp only [maxLen]; omega) (by omega) (by have := hB.size; simp; omega) ?_; intro v' w1 hown' hgrow _; obtain ⟨g', cap', rfl⟩ := ownsRow_succ hown'; obtain ⟨hv1, hv2, hr2, hk2, hb2⟩ := hv.appended (by decide) hrow hB.size (by omega) hown' hgrow; have hc3 := hv1.cell; have hf3 := hv1.frozen)
        have q1 : Boxed w1 w.heap.size 21 (.int .i32 r) := (hb1.alloc _).kept hgrow (hb1.not_row (by decide) hrow)
        simp only [List.length_append] at hv2 hr2 hk2 hb2
        refine ⟨hk2, ⟨q1.other (by omega) _, ⟨_, hv2, ?_⟩, Below.trans hB hb2⟩, HDK.out.mono (Nat.le_refl _) (fun D hD h => hk2.same _ _ h rfl)⟩
        rw [sel_hit r pre HX.out]
        simpa [List.length_append, Nat.add_assoc] using hr2
      · have hxb : (x.2 == r) = false := by simpa using hxr
        have HX := Lib.hid hxr
        clear hxr
        gi_wp2
        refine ⟨KeepsOthers.refl _, ⟨hb1, ⟨v, hv, ?_⟩, hB⟩, HDK.out⟩
        rw [sel_miss r pre HX.out]
        exact hrow
    case done =>
      rintro W' ⟨hC', hD'⟩ hK
      have HL := Lib.hid (Array.getElem?_eq_some_iff.1 hK).1
      have HK := Lib.hid hK
      have HC3 := Lib.hid hC'
      have HD3 := Lib.hid hD'
      clear hK hC' hD'
      gi_wp2
      refine ⟨⟨k + 1, _, _, _, _, _, _, _, by omega, rfl, ?_, ?_⟩, ?_⟩
      · rw [HL1.out]
        exact HC3.out
      · exact ⟨Wz.heap.size, rfl, HZ.out, HL.out, HK.out, HD3.out⟩
      · simp [intOf]
        omega
    case stop =>
      intro W' h
      exact h.elim
  · obtain rfl : k = 10 := by omega
    obtain ⟨hb1, ⟨v, hv, hrow⟩, hB⟩ := HC.out
    have hc2 := hv.cell
    have HRO := Lib.hid hrow
    have HB := Lib.hid hB
    clear hb1 hv hrow hB
    gi_wp2_with fail
    exact leaves_all w.heap.size (fun X => U.Own X w.heap.size 3 .i64 v (codesL r 10) ∧ Bel w X)
      (fun X D o h hD hd => ⟨ownsRow_putObj h.1 o hd rfl, bel_put h.2 hD o⟩) (fun X h => ⟨_, results_tmp rfl _ _ _, v, rfl, h.1, h.2⟩) ds _ W HD.out ⟨HRO.out, HB.out⟩
end Go.Proofs.YtphnahabonfmmaaGreatDoor.E
namespace Go.Proofs.YtphnahabonfmmaaGreatDoor.G
open Go.RowKit U
set_option linter.unusedVariables false

theorem basic_yes (n : Int) (w : World) (h0 : 33 ≤ n) (h1 : n ≤ 126) : Calls Tryz.prog 53 #[.int .i64 n] w fun e w' => e = .returned (.tuple #[.int .i32 n, .bool true]) ∧ w' = w := by
  go_enter Tryz.func53, Tryz.ntmps53
  go_wp2
  go_ret2
  exact ⟨rfl, rfl⟩
theorem basic_no (n : Int) (w : World) (h : n < 33 ∨ 126 < n) : Calls Tryz.prog 53 #[.int .i64 n] w fun e w' => e = .returned (.tuple #[.int .i32 0, .bool false]) ∧ w' = w := by
  rcases h with h | h
  · go_enter Tryz.func53, Tryz.ntmps53
    go_wp2
    go_ret2
    exact ⟨rfl, rfl⟩
  · have h' : ¬ n < 33 := by omega
    go_enter Tryz.func53, Tryz.ntmps53
    go_wp2
    go_ret2
    exact ⟨rfl, rfl⟩
theorem basic_is (n : Int) (w : World) : Calls Tryz.prog 53 #[.int .i64 n] w fun e w' => e = .returned (.tuple #[.int .i32 (bas n).1, .bool (bas n).2]) ∧ w' = w := by
  unfold bas
  by_cases h : 33 ≤ n ∧ n ≤ 126
  · rw [if_pos h]
    exact basic_yes n w h.1 h.2
  · rw [if_neg h]
    exact basic_no n w (by omega)

theorem cells_two (w : World) (a b : Int) : (w.alloc (.cells #[.int .i64 a, .int .i64 b] 30)).cell? ⟨w.heap.size, 0, none⟩ = some (.int .i64 a) ∧ (w.alloc (.cells #[.int .i64 a, .int .i64 b] 30)).cell? ⟨w.heap.size, 1, none⟩ = some (.int .i64 b) :=
  ⟨(World.cell?_alloc_mark w #[.int .i64 a, .int .i64 b] 30 (0, 0) 0).trans rfl, (World.cell?_alloc_mark w #[.int .i64 a, .int .i64 b] 30 (0, 0) 1).trans rfl⟩
def RunePost (r : Int) (b : Bool) (w : World) (e : Ending) (w' : World) : Prop := e = .returned (.tuple #[.int .i32 r, .bool b]) ∧ Bel w w'
set_option maxHeartbeats 4000000 in
theorem rune_at (s n r : Int) (b : Bool) (hs : 1 ≤ s ∧ s ≤ 12) (hn : n ≤ 9223372036854775807) (hc : cr s n = (r, b)) (w : World) (hT : Tz w) :
    Calls Tryz.prog 34 #[.agg #[.int .i64 s, .int .i64 n]] w (RunePost r b w) := by
  have HT := Lib.hid hT
  have hb0 : Bel w (w.alloc (.cells #[.int .i64 s, .int .i64 n] 30)) := (Bel.refl w).alloc _
  have HB0 := Lib.hid hb0
  have c0 := cells_two w s n
  obtain ⟨c0, c1⟩ := c0
  obtain rfl | rfl | h3 | rfl | h10 : s = 1 ∨ s = 2 ∨ (3 ≤ s ∧ s ≤ 8) ∨ s = 9 ∨ (s = 10 ∨ s = 11 ∨ s = 12) := by omega
  · rw [cr_1] at hc
    have HC := Lib.hid (fun w => by have := basic_is n w; rwa [hc] at this : ∀ w, Calls Tryz.prog 53 #[.int .i64 n] w fun e w' => e = .returned (.tuple #[.int .i32 r, .bool b]) ∧ w' = w)
    clear hc hs hn hT hb0
    go_enter Tryz.func34, Tryz.ntmps34
    go_wp2_with (go_at_call 53; (with_reducible refine (HC.out _).mono ?_); rintro e w1 ⟨rfl, rfl⟩)
    go_ret2
    exact ⟨rfl, HB0.out⟩
  · rw [cr_2] at hc
    have HC := Lib.hid (fun w h => by have := ansel_is n hn w h; rwa [hc] at this : ∀ w, Tz w → Calls Tryz.prog 54 #[.int .i64 n] w fun e w' => e = .returned (.tuple #[.int .i32 r, .bool b]) ∧ Bel w w')
    clear hc hs hn hT hb0
    go_enter Tryz.func34, Tryz.ntmps34
    go_wp2_with (go_at_call 54; (with_reducible refine (HC.out _ (HT.out.bel HB0.out)).mono ?_); rintro e w1 ⟨rfl, hb1⟩)
    go_ret2
    exact ⟨rfl, HB0.out.trans hb1⟩
  · obtain ⟨k, hk, hk6⟩ : ∃ k : Nat, s = 3 + (k : Int) ∧ k < 6 := ⟨(s - 3).toNat, by omega, by omega⟩
    have hcc : cr s n = U.look (tabS k) n := by rw [hk]; exact cr_scripts k n hk6
    rw [hcc] at hc
    have HC := Lib.hid (fun w h => by have := U.rune_is k hk6 n hn w h; rwa [hc, ← hk] at this : ∀ w, Tz w → Calls Tryz.prog 57 #[.int .i64 s, .int .i64 n] w fun e w' => e = .returned (.tuple #[.int .i32 r, .bool b]) ∧ Bel w w')
    have e1 : (s == 1) = false := by simp; omega
    have e2 : (s == 2) = false := by simp; omega
    have e9 : (s == 9) = false := by simp; omega
    have e10 : (s == 10) = false := by simp; omega
    have e11 : (s == 11) = false := by simp; omega
    have e12 : (s == 12) = false := by simp; omega
    clear hc hs hn hT hb0 hk hk6 hcc h3
    go_enter Tryz.func34, Tryz.ntmps34
    go_wp2_with (go_at_call 57; (with_reducible refine (HC.out _ (HT.out.bel HB0.out)).mono ?_); rintro e w1 ⟨rfl, hb1⟩)
    go_ret2
    exact ⟨rfl, HB0.out.trans hb1⟩
  · rw [cr_9] at hc
    have HC := Lib.hid (fun w => by have := E.rune_is n w; rwa [hc] at this : ∀ w, Calls Tryz.prog 55 #[.int .i64 n] w fun e w' => e = .returned (.tuple #[.int .i32 r, .bool b]) ∧ Bel w w')
    clear hc hs hn hT hb0
    go_enter Tryz.func34, Tryz.ntmps34
    go_wp2_with (go_at_call 55; (with_reducible refine (HC.out _).mono ?_); rintro e w1 ⟨rfl, hb1⟩)
    go_ret2
    exact ⟨rfl, HB0.out.trans hb1⟩
  · rw [cr_small s n h10] at hc
    have HC := Lib.hid (fun w => S.rune_is s n r b h10 hc w)
    clear hc hs hn hT hb0
    obtain rfl | rfl | rfl := h10
    · go_enter Tryz.func34, Tryz.ntmps34
      go_wp2_with (go_at_call 56; (with_reducible refine (HC.out _).mono ?_); rintro e w1 ⟨rfl, rfl⟩)
      go_ret2
      exact ⟨rfl, HB0.out⟩
    · go_enter Tryz.func34, Tryz.ntmps34
      go_wp2_with (go_at_call 56; (with_reducible refine (HC.out _).mono ?_); rintro e w1 ⟨rfl, rfl⟩)
      go_ret2
      exact ⟨rfl, HB0.out⟩
    · go_enter Tryz.func34, Tryz.ntmps34
      go_wp2_with (go_at_call 56; (with_reducible refine (HC.out _).mono ?_); rintro e w1 ⟨rfl, rfl⟩)
      go_ret2
      exact ⟨rfl, HB0.out⟩
end Go.Proofs.YtphnahabonfmmaaGreatDoor.G
namespace Go.Proofs.YtphnahabonfmmaaGreatDoor.G
open Go.RowKit U
set_option linter.unusedVariables false
theorem rd_lit {w : World} {cs : Array Value} {l : List Int} {k : IntKind} {t : TypeId} (h : cs.toList = l.map (Value.int k)) : Rd (w.alloc (.cells cs t)) (w.heap.size + 1) k (some ⟨w.heap.size, 0, none⟩) l := fun i x hx => by
  refine ⟨w.heap.size, 0, rfl, by omega, ?_⟩
  have e : cs = (l.map (Value.int k)).toArray := by rw [← h]
  have h1 := World.cell?_alloc_mark w cs t (0, 0) i
  rw [Nat.zero_add]
  refine h1.trans ?_
  rw [e]
  simp [hx]

/-- The table of last bytes holds a text for each set. -/
def Lt (w : World) : Prop := ∀ k : Nat, 1 ≤ k → k ≤ 12 → ∃ l : List Int, 1 ≤ l.length ∧ l.length ≤ 9 ∧ w.cell? ⟨1, k, none⟩ = some (.string (str l))
/-- The rows of East. -/
def rowsL : List Int := [2171648, 2174976, 2175232, 2568192, 3362304, 6890496, 6890752, 6891008]
def Rw (w : World) : Prop := ∀ i z, rowsL[i]? = some z → w.cell? ⟨0, i, none⟩ = some (.int .i64 z)
def Gz (w : World) : Prop := Tz w ∧ Lt w ∧ Rw w
theorem Gz.bel {w w' : World} (h : Gz w) (hb : Bel w w') : Gz w' := by
  refine ⟨h.1.bel hb, fun k h1 h2 => ?_, fun i z hz => ?_⟩
  · obtain ⟨l, a, b, c⟩ := h.2.1 k h1 h2
    exact ⟨l, a, b, (Below.cell hb (p := ⟨1, k, none⟩) (cell_block c)).trans c⟩
  · have c := h.2.2 i z hz
    exact (Below.cell hb (p := ⟨0, i, none⟩) (cell_block c)).trans c

/-- How many bytes a code has. -/
def sz (s : Int) : Int := if 1 ≤ s ∧ s ≤ 12 then (if s = 9 then 3 else 1) else 0
theorem is_is (s : Int) (b : Bool) (w : World) (h : decide (1 ≤ s ∧ s ≤ 12) = b) : Calls Tryz.prog 40 #[.int .i64 s] w fun e w' => e = .returned (.bool b) ∧ w' = w := by
  subst h
  go_enter Tryz.func40, Tryz.ntmps40
  go_wp2
  all_goals go_ret
  all_goals refine ⟨ret_bool ?_, rfl⟩
  all_goals (rw [Bool.eq_iff_iff]; simp; try omega)
theorem final_yes (s : Int) (w : World) (h : 1 ≤ s ∧ s ≤ 12) (hT : Lt w) : Calls Tryz.prog 22 #[.int .i64 s] w fun e w' => (∃ x, e = .returned (.tuple #[.int .u8 x, .bool true])) ∧ w' = w := by
  obtain ⟨k, rfl⟩ : ∃ k : Nat, s = k := ⟨s.toNat, by omega⟩
  obtain ⟨l, h1, h2, hc⟩ := hT k (by omega) (by omega)
  have HI := Lib.hid (fun w => is_is (k : Int) true w (by simpa using h))
  obtain ⟨S, hS⟩ : ∃ S, S = str l := ⟨_, rfl⟩
  have hz : S.size = l.length := by rw [hS, str_size]
  rw [← hS] at hc
  have q0 : (0 : Int) ≤ (k : Int) := by omega
  have q1 : (k : Int) < 13 := by omega
  obtain ⟨n, hn⟩ : ∃ n : Nat, S.size = n + 1 := ⟨l.length - 1, by omega⟩
  have hn9 : n ≤ 8 := by omega
  have q2 : wrap64 ((n : Int) + 1 - 1) = (n : Int) := by unfold wrap64; omega
  have q2' : wrap64 (n : Int) = (n : Int) := by unfold wrap64; omega
  have q3 : (0 : Int) ≤ (n : Int) := by omega
  have q4 : (n : Int) < (n : Int) + 1 := by omega
  clear hS h hT h1 h2 hz
  go_enter Tryz.func22, Tryz.ntmps22
  go_wp2_with (go_at_call 40; (with_reducible refine (HI.out _).mono ?_); rintro e w1 ⟨rfl, rfl⟩)
  go_ret2
  exact ⟨⟨_, rfl⟩, rfl⟩
theorem final_no (s : Int) (w : World) (h : ¬ (1 ≤ s ∧ s ≤ 12)) : Calls Tryz.prog 22 #[.int .i64 s] w fun e w' => e = .returned (.tuple #[.int .u8 0, .bool false]) ∧ w' = w := by
  have HI := Lib.hid (fun w => is_is s false w (by simpa using h))
  clear h
  go_enter Tryz.func22, Tryz.ntmps22
  go_wp2_with (go_at_call 40; (with_reducible refine (HI.out _).mono ?_); rintro e w1 ⟨rfl, rfl⟩)
  go_ret2
  exact ⟨rfl, rfl⟩
theorem size_is (s : Int) (w : World) (h : 1 ≤ s ∧ s ≤ 12) (hT : Lt w) : Calls Tryz.prog 10 #[.int .i64 s] w fun e w' => e = .returned (.int .i64 (sz s)) ∧ w' = w := by
  have HF := Lib.hid (fun w (h2 : Lt w) => final_yes s w h h2)
  have HT := Lib.hid hT
  have e0 : sz s = if s = 9 then 3 else 1 := if_pos h
  rw [e0]
  clear h hT e0
  by_cases h9 : s = 9
  · have e : (s == 9) = true := by simpa using h9
    rw [if_pos h9]
    clear h9
    go_enter Tryz.func10, Tryz.ntmps10
    go_wp2_with (go_at_call 22; (with_reducible refine (HF.out _ HT.out).mono ?_); rintro e w1 ⟨⟨x, rfl⟩, rfl⟩)
    go_ret
    exact ⟨rfl, rfl⟩
  · have e : (s == 9) = false := by simpa using h9
    rw [if_neg h9]
    clear h9
    go_enter Tryz.func10, Tryz.ntmps10
    go_wp2_with (go_at_call 22; (with_reducible refine (HF.out _ HT.out).mono ?_); rintro e w1 ⟨⟨x, rfl⟩, rfl⟩)
    go_ret
    exact ⟨rfl, rfl⟩

/-- The numbers of a row. -/
def rowL (high : Int) : List Int := (List.range 94).map fun (i : Nat) => high + (33 + (i : Int))
def rowK (high : Int) (k : Nat) : List Int := (List.range k).map fun (i : Nat) => high + (33 + (i : Int))
theorem rowK_succ (high : Int) (k : Nat) : rowK high (k + 1) = rowK high k ++ [high + (33 + (k : Int))] := by simp [rowK, List.range_succ]
theorem rowK_len (high : Int) (k : Nat) : (rowK high k).length = k := by simp [rowK]
theorem rowL_len (high : Int) : (rowL high).length = 94 := by simp [rowL]
theorem infoI : (Tryz.prog.info? 3).map (fun i => (i.zero, i.size, i.bytes)) = some (some (.int .i64 0), 1, 8) := by kernel_rfl
theorem Own_below {w w' : World} {base : Nat} {e : TypeId} {k : IntKind} {v : Value} {l : List Int} (h : U.Own w base e k v l) (hb : Bel w w') : U.Own w' base e k v l := h.keep hb
def RowRel (high : Int) (w : World) (u v : Value) (wr : World) : Prop := ∃ k : Nat, k ≤ 94 ∧ v = .int .i64 (33 + (k : Int)) ∧ U.Own wr w.heap.size 3 .i64 u (rowK high k) ∧ Bel w wr
def OwnPost (w : World) (l : List Int) (e : Ending) (w' : World) : Prop := ∃ v, e = .returned v ∧ U.Own w' w.heap.size 3 .i64 v l ∧ Bel w w'
set_option maxRecDepth 100000 in
set_option maxHeartbeats 2000000 in
theorem row_is (high : Int) (h0 : 0 ≤ high) (h1 : high ≤ 16777216) (w : World) : Calls Tryz.prog 35 #[.int .i64 high] w (OwnPost w (rowL high)) := by
  obtain ⟨i0, hi0, hz0, hz1, hz2⟩ := info_parts infoI
  go_enter Tryz.func35, Tryz.ntmps35
  go_wp2
  go_loopw [3, 4] (fun u v wr => RowRel high w u v wr) (fun _ v _ => 127 - (intOf v).toNat)
  case atStart => exact ⟨0, by omega, rfl, U.Own.nil _ _ _ _, Bel.refl _⟩
  case round =>
    obtain ⟨k, hk, rfl, hown, hB⟩ := hrel
    have HO := Lib.hid hown
    have HB := Lib.hid hB
    clear hown hB
    by_cases hlt : k < 94
    · have q0 : decide (33 + (k : Int) ≤ 126) = true := by simp; omega
      have q1 : wrap64 (high + (33 + (k : Int))) = high + (33 + (k : Int)) := by unfold wrap64; omega
      have HR : Hid (Rd (wr.alloc (.cells #[.int .i64 (high + (33 + (k : Int)))] 3)) (wr.heap.size + 1) .i64 (some ⟨wr.heap.size, 0, none⟩) [high + (33 + (k : Int))]) := Lib.hid (rd_lit rfl)
      have HBa : Hid (Bel w (wr.alloc (.cells #[.int .i64 (high + (33 + (k : Int)))] 3))) := Lib.hid (HB.out.alloc _)
      have HOa : Hid (U.Own (wr.alloc (.cells #[.int .i64 (high + (33 + (k : Int)))] 3)) w.heap.size 3 .i64 u3 (rowK high k)) := Lib.hid (HO.out.keep ((Bel.refl _).alloc _))
      go_wp2_with (first | (at_builtin; refine wpl_append (by rfl) (.tmp 9) (.tmp 13) 77 rfl Tryz.underlying77 hi0 hz0 hz1 hz2 rfl (by omega) HOa.out rfl HR.out rfl rfl (fun e => by cases e) (by rw [rowK_len]; omega) (Below.size HBa.out) ?_; intro v w1 hown1 hb1) | fail)
      exact ⟨⟨k + 1, by omega, (by first | rfl | (congr 1; omega)), by rw [rowK_succ]; exact hown1, Below.trans HBa.out hb1⟩, by simp [intOf]; omega⟩
    · obtain rfl : k = 94 := by omega
      go_wp2
      go_ret
      exact ⟨_, rfl, HO.out, HB.out⟩

/-- All numbers of a set that may have a character. -/
def everyL (s : Int) : List Int := if s = 9 then rowsL.flatMap rowL else rowL 0
def EvRel (w : World) (u v : Value) (wr : World) : Prop := ∃ k : Nat, k ≤ 8 ∧ v = .int .i64 k ∧ U.Own wr w.heap.size 3 .i64 u ((rowsL.take k).flatMap rowL) ∧ Bel w wr
theorem rows_len (l : List Int) : (l.flatMap rowL).length = 94 * l.length := by
  induction l with
  | nil => rfl
  | cons a l ih => simp only [List.flatMap_cons, List.length_append, rowL_len, ih, List.length_cons]; omega
theorem rows_fit {i : Nat} {z : Int} (h : rowsL[i]? = some z) : 0 ≤ z ∧ z ≤ 16777216 := by
  have h2 := List.all_eq_true.1 (show rowsL.all (fun z => decide (0 ≤ z) && decide (z ≤ 16777216)) = true by decide) z (List.mem_of_getElem? h)
  simpa using h2
def rowsV : Array Value := #[.int .i64 2171648, .int .i64 2174976, .int .i64 2175232, .int .i64 2568192, .int .i64 3362304, .int .i64 6890496, .int .i64 6890752, .int .i64 6891008]
theorem rowsV_at {k : Nat} (hk : k < 8) : ∃ z, rowsL[k]? = some z ∧ 0 ≤ z ∧ z ≤ 16777216 ∧ rowsV[k]? = some (.int .i64 z) ∧ rowsV.extract k (k + 1) = #[.int .i64 z] := by
  match k, hk with
  | 0, _ | 1, _ | 2, _ | 3, _ | 4, _ | 5, _ | 6, _ | 7, _ => exact ⟨_, rfl, by omega, by omega, rfl, rfl⟩
theorem row_at {k : Nat} (hk : k < 8) : ∃ z, rowsL[k]? = some z ∧ 0 ≤ z ∧ z ≤ 16777216 ∧ ∀ w : World, (Instr.index 80 (.agg rowsV) (.int .i64 k)).run Tryz.prog w = .ok (.int .i64 z) w := by
  obtain ⟨z, hz, z0, z1, h1, h2⟩ := rowsV_at hk
  have h3 : (0 : Int) ≤ k ∧ (k : Int) < 8 := by omega
  refine ⟨z, hz, z0, z1, fun w => ?_⟩
  unfold Instr.index part
  simp [go_sem, Result.andThen, h3, h1, h2]
  intro h
  omega
set_option maxRecDepth 100000 in
set_option maxHeartbeats 2000000 in
theorem every_is (s : Int) (w : World) (hT : Rw w) : Calls Tryz.prog 20 #[.int .i64 s] w (OwnPost w (everyL s)) := by
  unfold everyL
  by_cases h9 : s = 9
  · rw [if_pos h9]
    subst h9
    obtain ⟨i0, hi0, hz0, hz1, hz2⟩ := info_parts infoI
    have c0 := hT 0 _ rfl
    have c1 := hT 1 _ rfl
    have c2 := hT 2 _ rfl
    have c3 := hT 3 _ rfl
    have c4 := hT 4 _ rfl
    have c5 := hT 5 _ rfl
    have c6 := hT 6 _ rfl
    have c7 := hT 7 _ rfl
    clear hT
    go_enter Tryz.func20, Tryz.ntmps20
    have HRow := Lib.hid (fun high h0 h1 w => row_is high h0 h1 w)
    have HAt := Lib.hid (fun k hk => row_at (k := k) hk)
    go_wp2
    change Hid (∀ k : Nat, k < 8 → ∃ z, rowsL[k]? = some z ∧ 0 ≤ z ∧ z ≤ 16777216 ∧ ∀ w : World, (Instr.index 80 (.agg rowsV) (.int .i64 k)).run Tryz.prog w = .ok (.int .i64 z) w) at HAt
    have hV : rowsV = #[.int .i64 2171648, .int .i64 2174976, .int .i64 2175232, .int .i64 2568192, .int .i64 3362304, .int .i64 6890496, .int .i64 6890752, .int .i64 6891008] := rfl
    rw [← hV]
    generalize rowsV = V at HAt ⊢
    clear hV
    go_loopw [3, 10] (fun u v wr => EvRel w u v wr) (fun _ v _ => 8 - (intOf v).toNat)
    case atStart => exact ⟨0, by omega, rfl, U.Own.nil _ _ _ _, Bel.refl _⟩
    case round =>
      obtain ⟨k, hk, rfl, hown, hB⟩ := hrel
      have HO := Lib.hid hown
      have HB := Lib.hid hB
      clear hown hB
      by_cases hlt : k < 8
      · have q0 : decide ((k : Int) < 8) = true := by simp; omega
        obtain ⟨z, hz, z0, z1, hat⟩ := HAt.out k hlt
        have HZ := Lib.hid (And.intro hz (And.intro z0 z1))
        have q1 : wrap64 ((k : Int) + 1) = ((k + 1 : Nat) : Int) := by unfold wrap64; omega
        clear hz z0 z1
        have HFit : Hid (((rowsL.take k).flatMap rowL).length + 94 ≤ 100000) := Lib.hid (by rw [rows_len, List.length_take]; simp [rowsL]; omega)
        go_wp2_with (first | (go_at_call 35; (with_reducible refine (HRow.out z HZ.out.2.1 HZ.out.2.2 _).mono ?_); rintro e w1 ⟨v, rfl, hrow, hb⟩; obtain ⟨A, cap, rfl, hcap, hrd, hA⟩ := hrow.rd; have HOa := Lib.hid (HO.out.keep hb); have HBa := Lib.hid (HB.out.trans hb); have HRd := Lib.hid hrd; have HA := Lib.hid hA; clear hrow hb hcap hrd hA) | (at_builtin; refine wpl_append (by rfl) (.tmp 13) (.tmp 15) 77 rfl Tryz.underlying77 hi0 hz0 hz1 hz2 rfl (by omega) HOa.out rfl HRd.out rfl (by rw [rowL_len]) HA.out (by simpa [rowL_len] using HFit.out) (Below.size HBa.out) ?_; intro v w2 hown1 hb1) | fail)
        refine ⟨⟨k + 1, by omega, rfl, ?_, Below.trans HBa.out hb1⟩, by simp [intOf]; omega⟩
        rw [List.take_add_one, HZ.out.1]
        simpa using hown1
      · obtain rfl : k = 8 := by omega
        go_wp2
        go_ret
        exact ⟨_, rfl, HO.out, HB.out⟩
  · rw [if_neg h9]
    have e : (s == 9) = false := by simpa using h9
    have HR := Lib.hid (fun w => row_is 0 (by omega) (by omega) w)
    clear h9 hT
    go_enter Tryz.func20, Tryz.ntmps20
    go_wp2_with (go_at_call 35; (with_reducible refine (HR.out _).mono ?_); rintro e w1 ⟨v, rfl, hown, hb⟩)
    go_ret
    exact ⟨_, rfl, hown, hb⟩
end Go.Proofs.YtphnahabonfmmaaGreatDoor.G
namespace Go.Proofs.YtphnahabonfmmaaGreatDoor.C
open Go.RowKit U
set_option linter.unusedVariables false

/-- A row's cells; the table's. -/
def row4 (s : Row) : List Value := [.int .i32 s.1, .int .i32 s.2.1, .int .u8 s.2.2.1, .int .u8 s.2.2.2]
def tabC : List Value := tab.flatMap row4
theorem flat4 (f : Row → List Value) (hf : ∀ x, (f x).length = 4) : ∀ (l : List Row) (i : Nat) (x : Row), l[i]? = some x → ∀ j, j < 4 → (l.flatMap f)[i * 4 + j]? = (f x)[j]?
  | [], i, x, h, _, _ => by simp at h
  | y :: t, 0, x, h, j, hj => by
    simp at h
    subst h
    rw [List.flatMap_cons, List.getElem?_append_left (by rw [hf]; omega)]
    simp
  | y :: t, i + 1, x, h, j, hj => by
    simp at h
    rw [List.flatMap_cons, List.getElem?_append_right (by rw [hf]; omega), hf]
    rw [show (i + 1) * 4 + j - 4 = i * 4 + j by omega]
    exact flat4 f hf t i x h j hj
/-- The table lies in its variable. -/
def Sp (w : World) : Prop := w.rangeAt 2 0 tabC
theorem Sp.bel {w w' : World} (h : Sp w) (hb : Bel w w') : Sp w' := fun j v hv => by
  have := h j v hv
  exact (Below.cell hb (p := ⟨2, 0 + j, none⟩) (cell_block this)).trans this
theorem Sp.at {w : World} (h : Sp w) {i : Nat} {s : Row} (hi : tab[i]? = some s) :
    w.cell? ⟨2, i * 4, none⟩ = some (.int .i32 s.1) ∧ w.cell? ⟨2, i * 4 + 1, none⟩ = some (.int .i32 s.2.1) ∧ w.cell? ⟨2, i * 4 + 2, none⟩ = some (.int .u8 s.2.2.1) ∧ w.cell? ⟨2, i * 4 + 3, none⟩ = some (.int .u8 s.2.2.2) := by
  have k : ∀ j v, j < 4 → (row4 s)[j]? = some v → w.cell? ⟨2, i * 4 + j, none⟩ = some v := fun j v hj hv => by
    have := h (i * 4 + j) v ((flat4 row4 (fun _ => rfl) tab i s hi j hj).trans hv)
    rwa [Nat.zero_add] at this
  exact ⟨k 0 _ (by omega) rfl, k 1 _ (by omega) rfl, k 2 _ (by omega) rfl, k 3 _ (by omega) rfl⟩

set_option maxHeartbeats 2000000 in
theorem test_is (r : Int) (i b : Nat) (s : Row) (t : Bool) (w : World) (h : Sp w) (hi : tab[i]? = some s) (h40 : i < 40) (hb : w.cell? ⟨b, 0, none⟩ = some (.int .i32 r)) (ht : upTo r i = t) :
    Calls Tryz.prog 121 #[.int .i64 i, .pointer (some ⟨b, 0, none⟩)] w fun e w' => e = .returned (.bool t) ∧ Bel w w' := by
  obtain ⟨c0, c1, c2, c3⟩ := h.at hi
  have ht' := (upTo_is (r := r) hi).symm.trans ht
  clear h hi ht c0 c2 c3
  obtain ⟨s0, s1, s2, s3⟩ := s
  dsimp only at c1 ht'
  have q0 : (0 : Int) ≤ (i : Int) := by omega
  have q1 : (i : Int) < 40 := by omega
  go_enter Tryz.func121, Tryz.ntmps121
  go_wp2
  go_quiet (fail)
  go_wp2
  go_ret
  exact ⟨rfl, (Bel.refl _).drewN _⟩

end Go.Proofs.YtphnahabonfmmaaGreatDoor.C
namespace Go.Proofs.YtphnahabonfmmaaGreatDoor.C
open Go.RowKit U
set_option linter.unusedVariables false

def SearchPost (w : World) (n : Nat) (p : Nat → Bool) (e : Ending) (w' : World) : Prop :=
  ∃ i : Nat, e = .returned (.int .i64 i) ∧ i ≤ n ∧ Hid ((∀ t, t < i → p t = false) ∧ ∀ t, i ≤ t → t < n → p t = true) ∧ Bel w w'
def SearchRel (w : World) (n : Nat) (p : Nat → Bool) (lo hi : Value) (w' : World) : Prop :=
  ∃ a b : Nat, lo = .int .i64 a ∧ hi = .int .i64 b ∧ a ≤ b ∧ b ≤ n ∧ Hid ((∀ t, t < a → p t = false) ∧ ∀ t, b ≤ t → t < n → p t = true) ∧ Bel w w'

set_option maxHeartbeats 2000000 in
theorem search_any (g : Nat) (cb : Array Value) (n : Nat) (p : Nat → Bool) (w : World) (eg : ∀ args w, (callFunc g args).run Tryz.prog w = .ok (.enter g args) w) (hn : n < 1000000)
    (hf : ∀ (w' : World) (i : Nat), i < n → Bel w w' → Calls Tryz.prog g (#[.int .i64 i] ++ cb) w' fun e w'' => e = .returned (.bool (p i)) ∧ Bel w' w'')
    (hmono : ∀ a b, a ≤ b → b < n → p a = true → p b = true) :
    Calls Tryz.prog 120 #[.int .i64 n, .func (.func g) #[] cb] w (SearchPost w n p) := by
  have HF := Lib.hid hf
  have HM := Lib.hid hmono
  clear hf hmono
  go_enter Tryz.func120, Tryz.ntmps120
  go_wp2
  go_loopw [5, 6] (fun lo hi wr => SearchRel w n p lo hi wr) (fun lo hi _ => (intOf hi).toNat - (intOf lo).toNat)
  case atStart => exact ⟨0, n, rfl, rfl, Nat.zero_le _, Nat.le_refl _, Lib.hid ⟨fun t ht => by omega, fun t h1 h2 => by omega⟩, Bel.refl _⟩
  case round =>
    obtain ⟨a, b, rfl, rfl, hab, hbn, HI, hbw⟩ := hrel
    by_cases hlt : a < b
    · obtain ⟨m, hm⟩ : ∃ m, m = (a + b) / 2 := ⟨_, rfl⟩
      have hc := HF.out wr m (by omega) hbw
      have em : ((a : Int) + (b : Int)) / 2 = (m : Int) := by omega
      cases hp : p m <;> rw [hp] at hc
      · have HP := Lib.hid hp
        have h1 : a ≤ m := by omega
        have h2 : m < b := by omega
        clear hp hm
        go_wp2_with (go_at_fn g; refine hc.mono ?_; rintro e w' ⟨rfl, hb1⟩)
        go_roundw
        case rel =>
          refine ⟨m + 1, b, by go_num, rfl, by omega, hbn, Lib.hid ⟨fun t ht => ?_, HI.out.2⟩, hbw.trans hb1⟩
          cases h : p t with
          | false => rfl
          | true => have := HM.out t m (by omega) (by omega) h; rw [HP.out] at this; cases this
        case measure => simp [intOf]; omega
      · have HP := Lib.hid hp
        have h1 : a ≤ m := by omega
        have h2 : m < b := by omega
        clear hp hm
        go_wp2_with (go_at_fn g; refine hc.mono ?_; rintro e w' ⟨rfl, hb1⟩)
        go_roundw
        case rel => exact ⟨a, m, rfl, by go_num, by omega, by omega, Lib.hid ⟨HI.out.1, fun t ht htn => HM.out m t ht htn HP.out⟩, hbw.trans hb1⟩
        case measure => simp [intOf]; omega
    · obtain rfl : b = a := by omega
      go_wp2
      go_ret
      exact ⟨b, rfl, hbn, HI, hbw⟩

end Go.Proofs.YtphnahabonfmmaaGreatDoor.C
namespace Go.Proofs.YtphnahabonfmmaaGreatDoor.C
open Go.RowKit U
set_option linter.unusedVariables false

set_option maxHeartbeats 2000000 in
theorem classOf_is (s : Row) (r v : Int) (w : World) (hs : 768 ≤ s.1 ∧ s.1 ≤ s.2.1 ∧ s.2.1 ≤ 65059 ∧ 1 ≤ s.2.2.1 ∧ s.2.2.1 ≤ 240 ∧ (s.2.2.2 = 0 ∨ s.2.2.2 = 1)) (hr : s.1 ≤ r ∧ r ≤ s.2.1) (hv : val s r = v) :
    Calls Tryz.prog 122 #[.agg #[.int .i32 s.1, .int .i32 s.2.1, .int .u8 s.2.2.1, .int .u8 s.2.2.2], .int .i32 r] w fun e w' => e = .returned (.int .i64 v) ∧ Bel w w' := by
  obtain ⟨s0, s1, s2, s3⟩ := s
  dsimp only [val] at hs hr hv ⊢
  obtain ⟨h0, h1, h2, h3, h4, h5⟩ := hs
  obtain ⟨g0, g1⟩ := hr
  rcases h5 with rfl | rfl
  · rw [Int.mul_zero, Int.add_zero] at hv
    subst hv
    go_enter Tryz.func122, Tryz.ntmps122
    go_wp2
    go_ret
    exact ⟨by first | rfl | exact ret_int (by omega), (Bel.refl _).alloc _⟩
  · rw [Int.mul_one] at hv
    have q0 : 0 ≤ r - s0 := by omega
    have q1 : r - s0 ≤ 65059 := by omega
    go_enter Tryz.func122, Tryz.ntmps122
    go_wp2
    go_ret
    exact ⟨by first | rfl | exact ret_int (by omega), (Bel.refl _).alloc _⟩
end Go.Proofs.YtphnahabonfmmaaGreatDoor.C
namespace Go.Proofs.YtphnahabonfmmaaGreatDoor.C
open Go.RowKit U
set_option linter.unusedVariables false

def IntIs (w : World) (v : Int) (e : Ending) (w' : World) : Prop := e = .returned (.int .i64 v) ∧ Bel w w'
def BoolIs (w : World) (b : Bool) (e : Ending) (w' : World) : Prop := e = .returned (.bool b) ∧ Bel w w'

theorem cell_box (w : World) (v : Value) (t : TypeId) : (w.alloc (.cells #[v] t)).cell? ⟨w.heap.size, 0, none⟩ = some v := by
  rw [World.cell?_alloc_at _ _ _ _ (by simp)]; rfl
theorem entersOf : ∀ (args : Array Value) (w : World), (callFunc 121 args).run Tryz.prog w = .ok (.enter 121 args) w := enters_of Tryz.func121 (by kernel_rfl) rfl

theorem search_is (r : Int) (b : Nat) (w : World) (h : Sp w) (hb : w.cell? ⟨b, 0, none⟩ = some (.int .i32 r)) :
    Calls Tryz.prog 120 #[.int .i64 40, .func (.func 121) #[] #[.pointer (some ⟨b, 0, none⟩)]] w (SearchPost w 40 (upTo r)) := by
  refine search_any 121 #[.pointer (some ⟨b, 0, none⟩)] 40 (upTo r) w entersOf (by omega) (fun w' i hi hbel => ?_) (fun a b hab hb' hp => upTo_mono hab hb' hp)
  obtain ⟨s, hs⟩ := tab_at hi
  exact test_is r i b s _ w' (h.bel hbel) hs hi ((Below.cell hbel (p := ⟨b, 0, none⟩) (cell_block hb)).trans hb) rfl

set_option maxRecDepth 100000 in
set_option maxHeartbeats 2000000 in
theorem of_is (r v : Int) (w : World) (h : Sp w) (hv : cls r = v) : Calls Tryz.prog 100 #[.int .i32 r] w (IntIs w v) := by
  have hmf : ∀ (fn : Fn) (first cap : Array Value) (w : World), (Instr.makeFunc fn first cap).run Tryz.prog w = .ok (.func fn first cap) w := fun _ _ _ _ => rfl
  have hbox := cell_box w (.int .i32 r) 21
  have hS := search_is r w.heap.size _ (h.bel ((Bel.refl w).alloc (.cells #[.int .i32 r] 21))) hbox
  have HB := Lib.hid hbox
  have HH := Lib.hid h
  have HV := Lib.hid hv
  clear h hv hbox
  go_enter Tryz.func100, Tryz.ntmps100
  go_wp2_with (go_at_call 120; refine hS.mono ?_; rintro e w1 ⟨i, rfl, hi, HI, hb1⟩)
  have hb2 : Bel w w1 := ((Bel.refl w).alloc _).trans hb1
  have c0 : w1.cell? ⟨w.heap.size, 0, none⟩ = some (.int .i32 r) := (Below.cell hb1 (p := ⟨w.heap.size, 0, none⟩) (cell_block HB.out)).trans HB.out
  clear hS
  by_cases h40 : i = 40
  · subst h40
    have e0 := HV.out
    rw [cls_past fun t ht => HI.out.1 t ht] at e0
    subst e0
    go_quiet (fail)
    go_wp2
    go_ret
    exact ⟨rfl, hb2.drewN _⟩
  · have hlt : i < 40 := by omega
    obtain ⟨s, hs⟩ := tab_at hlt
    obtain ⟨d0, d1, d2, d3⟩ := (HH.out.bel hb2).at hs
    have q0 : (0 : Int) ≤ (i : Int) := by omega
    have q1 : (i : Int) < 40 := by omega
    have q2 : ((i : Int) == 40) = false := by simp; omega
    have hrow := tab_row hs
    have hmid := fun (w : World) (hc : w.rangeAt 2 (i * 4) (row4 s)) => run_loadAt_mid (P := Tryz.prog) w 2 (i * 4) 168 (row4 s) _ hc Tryz.underlying168 rfl (by kernel_rfl)
    by_cases hr : r < s.1
    · have e0 := HV.out
      rw [cls_ahead hs HI.out.1 hr] at e0
      subst e0
      have hd : decide (r < s.1) = true := by simpa using hr
      go_quiet (fail)
      go_wp2
      go_ret
      exact ⟨rfl, hb2.drewN _⟩
    · have hu := HI.out.2 i (Nat.le_refl _) hlt
      have e0 := HV.out
      rw [cls_in hs HI.out.1 hu hr] at e0
      rw [upTo_is hs] at hu
      have hle : r ≤ s.2.1 := by simpa using hu
      have hd : decide (r < s.1) = false := by simpa using hr
      have hC := fun w => classOf_is s r v w hrow ⟨by omega, hle⟩ e0
      clear hu hle e0
      go_quiet (fail)
      go_wp2
      have hb4 : Bel w (w1.drewN nq) := hb2.drewN nq
      have e0 : (w1.drewN nq).cell? ⟨w.heap.size, 0, none⟩ = some (.int .i32 r) := c0
      have e1 : (w1.drewN nq).cell? ⟨2, i * 4, none⟩ = some (.int .i32 s.1) := d0
      have e2 : (w1.drewN nq).cell? ⟨2, i * 4 + 1, none⟩ = some (.int .i32 s.2.1) := d1
      have e3 : (w1.drewN nq).cell? ⟨2, i * 4 + 2, none⟩ = some (.int .u8 s.2.2.1) := d2
      have e4 : (w1.drewN nq).cell? ⟨2, i * 4 + 3, none⟩ = some (.int .u8 s.2.2.2) := d3
      generalize w1.drewN nq = w2 at hb4 e0 e1 e2 e3 e4 ⊢
      clear c0 d0 d1 d2 d3 hb1 hb2 HB HI hmid HH
      go_region_with (go_at_call 122; refine (hC _).mono ?_; rintro e w3 ⟨rfl, hb3⟩)
      all_goals go_wp2
      all_goals go_ret
      all_goals exact ⟨rfl, hb4.drew.trans hb3⟩
theorem mark_is (r : Int) (b : Bool) (w : World) (h : Sp w) (hb : decide (0 < cls r) = b) : Calls Tryz.prog 65 #[.int .i32 r] w (BoolIs w b) := by
  obtain ⟨v, hv⟩ : ∃ v, cls r = v := ⟨_, rfl⟩
  have hO := of_is r v w h hv
  rw [hv] at hb
  clear hv h
  go_enter Tryz.func65, Tryz.ntmps65
  go_wp2_with (go_at_call 100; refine hO.mono ?_; rintro e w1 ⟨rfl, hb1⟩)
  go_ret
  exact ⟨by first | rfl | exact ret_bool hb, hb1⟩

end Go.Proofs.YtphnahabonfmmaaGreatDoor.C
namespace Go.Proofs.YtphnahabonfmmaaGreatDoor.D
open Go.RowKit U V
set_option linter.unusedVariables false

/-- The library's tables, the sets' last bytes and the spans of marks are as they are laid. -/
def Dz (w : World) : Prop := Tz w ∧ Tb w ∧ C.Sp w
theorem Dz.bel {w w' : World} (h : Dz w) (hb : Bel w w') : Dz w' := ⟨h.1.bel hb, h.2.1.bel hb, h.2.2.bel hb⟩
theorem lt_of {w : World} (h : Tb w) : G.Lt w := fun k h1 h2 => by
  obtain ⟨l, e1, _, _, e4⟩ := lastT_at (set := (k : Int)) (by omega) (by omega)
  rw [Int.toNat_natCast] at e1
  exact ⟨l, e4, by have := (lasts_ok l (List.mem_of_getElem? e1)).2; omega, h k l e1⟩

theorem fin_all {p : Int → Prop} {n : Nat} (h : ∀ x : Fin n, p (x.val : Int)) {x : Int} (h0 : 0 ≤ x) (h1 : x < n) : p x := by
  have := h ⟨x.toNat, by omega⟩
  have e : ((x.toNat : Nat) : Int) = x := Int.toNat_of_nonneg h0
  simpa [e] using this
theorem xor0 {x : Int} (h0 : 0 ≤ x) (h1 : x < 256) : bits .xor .u8 x 0 = flip 0 x := fin_all (p := fun x => bits .xor .u8 x 0 = flip 0 x) (n := 256) (by decide +kernel) h0 h1
theorem xor128 {x : Int} (h0 : 0 ≤ x) (h1 : x < 256) : bits .xor .u8 x 128 = flip 128 x := fin_all (p := fun x => bits .xor .u8 x 128 = flip 128 x) (n := 256) (by decide +kernel) h0 h1
theorem ofInt_i64 (a : Nat) (ha : a < 9223372036854775808) : (BitVec.ofInt 64 (a : Int)).toNat = a := by
  rw [BitVec.ofInt_natCast, BitVec.toNat_ofNat]; exact Nat.mod_eq_of_lt (by omega)
theorem wrap_i64 {n : Int} (h0 : 0 ≤ n) (h1 : n < 9223372036854775808) : IntKind.i64.wrap n = n := by
  simp [IntKind.wrap, IntKind.bits, IntKind.signed]; omega
/-- Eight bits more behind a number's. -/
theorem eight_more {a c : Int} (h0 : 0 ≤ a) (h1 : a < 33554432) (h2 : 0 ≤ c) (h3 : c < 256) : bits .or .i64 (a * 256) c = a * 256 + c := by
  obtain ⟨A, rfl⟩ := Int.eq_ofNat_of_zero_le h0
  obtain ⟨C, rfl⟩ := Int.eq_ofNat_of_zero_le h2
  have e : (A * 256 ||| C) = A * 256 + C := by
    have := Nat.shiftLeft_add_eq_or_of_lt (i := 8) (b := C) (by omega) A
    rw [Nat.shiftLeft_eq, show (2 : Nat) ^ 8 = 256 from rfl] at this
    exact this.symm
  have e1 : ((A : Int) * 256) = ((A * 256 : Nat) : Int) := by omega
  rw [e1]
  show IntKind.i64.wrap ((BitVec.ofInt 64 ((A * 256 : Nat) : Int) ||| BitVec.ofInt 64 (C : Int)).toNat : Int) = _
  rw [BitVec.toNat_or, ofInt_i64 _ (by omega), ofInt_i64 _ (by omega), e, wrap_i64 (by omega) (by omega)]
  omega
theorem flip_range {side b : Int} (hs : side = 0 ∨ side = 128) (h0 : 0 ≤ b) (h1 : b < 256) : 0 ≤ flip side b ∧ flip side b < 256 := by
  unfold flip
  rcases hs with rfl | rfl
  · rw [if_pos rfl]; omega
  · rw [if_neg (by omega)]; split <;> omega
theorem num_next (side : Int) {l : List Int} {k : Nat} {y : Int} (h : l[k]? = some y) : numL side (l.take (k + 1)) = numL side (l.take k) * 256 + flip side y := by
  unfold numL
  rw [List.take_add_one, h]
  simp [List.foldl_append]
theorem num_le {side : Int} (hs : side = 0 ∨ side = 128) : ∀ (k : Nat) (l : List Int), (∀ x ∈ l, 0 ≤ x ∧ x < 256) → k ≤ l.length → 0 ≤ numL side (l.take k) ∧ numL side (l.take k) < 256 ^ k
  | 0, l, _, _ => by simp [numL]
  | k + 1, l, hb, hk => by
    obtain ⟨y, hy⟩ : ∃ y, l[k]? = some y := ⟨l[k]'(by omega), by simp⟩
    rw [num_next side hy]
    have ih := num_le hs k l hb (by omega)
    have h2 := flip_range hs (hb y (List.mem_of_getElem? hy)).1 (hb y (List.mem_of_getElem? hy)).2
    rw [Int.pow_succ]
    omega
theorem num_lt {side : Int} (hs : side = 0 ∨ side = 128) (k : Nat) (l : List Int) (hb : ∀ x ∈ l, 0 ≤ x ∧ x < 256) (hk : k ≤ l.length) (h3 : k ≤ 3) : 0 ≤ numL side (l.take k) ∧ numL side (l.take k) < 16777216 ∧ (k ≤ 2 → numL side (l.take k) < 65536) := by
  have h := num_le hs k l hb hk
  have : k = 0 ∨ k = 1 ∨ k = 2 ∨ k = 3 := by omega
  rcases this with rfl | rfl | rfl | rfl
  · have : (256 : Int) ^ 0 = 1 := rfl
    omega
  · have : (256 : Int) ^ 1 = 256 := rfl
    omega
  · have : (256 : Int) ^ 2 = 65536 := rfl
    omega
  · have : (256 : Int) ^ 3 = 16777216 := rfl
    omega
theorem sz_is {s : Int} (h : 1 ≤ s ∧ s ≤ 12) : G.sz s = (sizeOf_ s : Nat) := by
  unfold G.sz sizeOf_
  rw [if_pos h]
  split <;> rfl
end Go.Proofs.YtphnahabonfmmaaGreatDoor.D
