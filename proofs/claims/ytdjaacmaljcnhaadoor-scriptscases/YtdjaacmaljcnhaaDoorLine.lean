/- What lines.Text.Line answers of a checked text and any number: the one line that has a word for it, or none. Tables as they are laid. -/
import Derived.Test.YtdjaacmaljcnhaaDoorLines
import Derived.Test.YtdjaacmaljcnhaaDoorQuiet
namespace Go.Proofs.YtdjaacmaljcnhaaDoor.U
open Go.RowKit Go.Shelf
set_option linter.unusedVariables false
attribute [local go_sem] Oper.semAt_some

/-- Whether a line has a word for n. -/
def mt (n : Int) (x : Ln) : Bool := x.ok && decide (x.st ≤ n) && decide (n - x.st ≤ x.k)
theorem lineOf_at {rs : List Ln} {n : Int} {i : Nat} {y : Ln} (hi : rs[i]? = some y) (hb : ∀ z ∈ rs.take i, mt n z = false) (hy : mt n y = true) : lineOf rs n = y := by
  unfold lineOf
  have h : rs.find? (fun x => x.ok && decide (x.st ≤ n) && decide (n - x.st ≤ x.k)) = some y := by
    obtain ⟨hlt, hv⟩ := List.getElem?_eq_some_iff.1 hi
    have e : rs = rs.take i ++ y :: rs.drop (i + 1) := by
      conv => lhs; rw [← List.take_append_drop i rs, List.drop_eq_getElem_cons hlt, hv]
    rw [e, List.find?_append, List.find?_eq_none.2 (fun z hz => by have := hb z hz; unfold mt at this; simp [this])]
    unfold mt at hy
    simp [hy]
  rw [h]
  rfl
theorem lineOf_none {rs : List Ln} {n : Int} (hb : ∀ z ∈ rs, mt n z = false) : lineOf rs n = noLn := by
  unfold lineOf
  rw [List.find?_eq_none.2 (fun z hz => by have := hb z hz; unfold mt at this; simp [this])]
  rfl
theorem bel_put {w W : World} {l : Nat} (h : Bel w W) (hl : w.heap.size ≤ l) (o : Obj) : Bel w (W.putObj l o) :=
  ⟨h.os, h.tape, h.output, by rw [World.putObj_size]; exact h.size, fun j hj => (World.putObj_heap_other (by omega)).trans (h.block j hj)⟩
theorem boxed_put {W : World} {B t l : Nat} {v : Value} (h : Boxed W B t v) (hl : B ≠ l) (o : Obj) : Boxed (W.putObj l o) B t v := (World.putObj_heap_other hl).trans h
def LInv (rs : List Ln) (n : Int) (B : Nat) (w : World) (pre : List (List UInt8)) (W : World) : Prop :=
  (∀ z ∈ rs.take pre.length, mt n z = false) ∧ Boxed W B 3 (.int .i64 n) ∧ Boxed W (B + 1) 31 (.string ⟨#[]⟩) ∧ Bel w W
def LFnd (rs : List Ln) (n : Int) (B : Nat) (w : World) (W : World) : Prop :=
  Boxed W (B + 1) 31 (.string ⟨(lineOf rs n).l.toArray⟩) ∧ Bel w W
theorem LInv.tch {rs : List Ln} {n : Int} {B b0 b1 E : Nat} {w W W' : World} {pre : List (List UInt8)} (h : LInv rs n B w pre W) (hc : Tch b0 b1 E W W') (h1 : B + 2 ≤ b0) (h2 : B + 2 ≤ E) (h3 : w.heap.size ≤ B) : LInv rs n B w pre W' :=
  ⟨h.1, hc.boxed h.2.1 (by omega) (by omega), hc.boxed h.2.2.1 (by omega) (by omega), Below.trans h.2.2.2 (hc.to_below (by omega) (by omega))⟩
theorem LFnd.tch {rs : List Ln} {n : Int} {B b0 b1 E : Nat} {w W W' : World} (h : LFnd rs n B w W) (hc : Tch b0 b1 E W W') (h1 : B + 2 ≤ b0) (h2 : B + 2 ≤ E) (h3 : w.heap.size ≤ B) : LFnd rs n B w W' :=
  ⟨hc.boxed h.1 (by omega) (by omega), Below.trans h.2 (hc.to_below (by omega) (by omega))⟩

set_option maxRecDepth 100000 in
set_option maxHeartbeats 2000000 in
theorem line_is (S : List UInt8) (tb : List (Int × Int)) (rs : List Ln) (hG : Good ⟨S.toArray⟩ tb rs) (hsz : S.length < 4000) (n : Int) (hn63 : n ≤ 9223372036854775807) (w : World) (hT : Tz w) :
    Calls Tryd.prog 14 #[.string ⟨S.toArray⟩, .int .i64 n] w fun e w' => e = .returned (.string ⟨(lineOf rs n).l.toArray⟩) ∧ Bel w w' := by
  have HG := Lib.hid hG
  have HT := Lib.hid hT
  have hspl : splB 10 S (rs.map (·.l)) = true := hG.spl
  clear hG hT
  refine (callsIn_wide (n := 6)).1 ?_
  refine callsIn_of_wp_marks Tryd.func14 rfl trivial ?_ rfl
  simp only [Tryd.ntmps14, List.size_toArray, List.length_cons, List.length_nil, Nat.reduceAdd, Nat.reduceSub, Array.replicate_succ, Array.replicate_zero, List.push_toArray, List.append_toArray, List.nil_append, List.cons_append]
  gi_wp2_with fail
  refine ⟨trivial, ?_⟩
  gi_at_call 18
  refine (callsIn_wide.2 (splitSeq_make S 10 _)).mono ?_
  rintro e W ⟨rfl, hz, hB, s0, s1, s2⟩
  have b1 : Boxed ((w.alloc (.cells #[.int .i64 n] 3)).alloc (.cells #[.string ⟨#[]⟩] 31)) w.heap.size 3 (.int .i64 n) := (Boxed.new w 3 _).alloc _
  have b2 : Boxed ((w.alloc (.cells #[.int .i64 n] 3)).alloc (.cells #[.string ⟨#[]⟩] 31)) (w.heap.size + 1) 31 (.string ⟨#[]⟩) := by
    have h := Boxed.new (w.alloc (.cells #[.int .i64 n] 3)) 31 (.string ⟨#[]⟩)
    rwa [World.size_alloc] at h
  have hB0 : Bel w ((w.alloc (.cells #[.int .i64 n] 3)).alloc (.cells #[.string ⟨#[]⟩] 31)) := ((Bel.refl w).alloc _).alloc _
  have hz0 : ((w.alloc (.cells #[.int .i64 n] 3)).alloc (.cells #[.string ⟨#[]⟩] 31)).heap.size = w.heap.size + 2 := by simp
  generalize ((w.alloc (.cells #[.int .i64 n] 3)).alloc (.cells #[.string ⟨#[]⟩] 31)) = W0 at hz hB s0 s1 s2 b1 b2 hB0 hz0 ⊢
  rw [hz0] at hz s0 s1 s2 ⊢
  have hseq := split_in 10 S _ hspl hsz (w.heap.size + 2) W Tz (by omega) s0 s1 s2
  have HI0 := Lib.hid (⟨by simp, boxed_bel b1 hB, boxed_bel b2 hB, hB0.trans hB⟩ : LInv rs n w.heap.size w [] W)
  have HZ := Lib.hid hz
  clear b1 b2 hB0 hz0 hB s0 s1 s2 hz
  gi_wp2_with fail
  refine range_top (fun x : List UInt8 => #[.string ⟨x.toArray⟩]) (rs.map (·.l)) (w.heap.size + 2) (w.heap.size + 5) (by decide) (by have := HZ.out; omega) rfl (enters_of Tryd.func33 (by kernel_rfl) rfl) (fun _ => rfl) hseq
    (LInv rs n w.heap.size w) (LFnd rs n w.heap.size w) (fun pre W h => HT.out.bel h.2.2.2)
    (fun pre W W' h hc => h.tch hc (by omega) (by have := HZ.out; omega) (Nat.le_refl _)) (fun W W' h hc => h.tch hc (by omega) (by have := HZ.out; omega) (Nat.le_refl _)) HI0.out
    (fun x => { tmps := #[.string ⟨S.toArray⟩, .int .i64 n, undef, .pointer (some ⟨w.heap.size, 0, none⟩), .pointer (some ⟨w.heap.size + 1, 0, none⟩), .string ⟨x.toArray⟩, undef, undef, undef, .string ⟨S.toArray⟩,
      .func (.func 33) #[] #[.pointer (some ⟨w.heap.size + 2 + 1, 0, none⟩), .pointer (some ⟨w.heap.size + 2, 0, none⟩), .pointer (some ⟨w.heap.size + 2 + 2, 0, none⟩)], .string ⟨x.toArray⟩,
      undef, undef, undef, undef, undef, undef, undef, undef, undef, undef, undef, undef, undef, undef, undef, undef, undef, undef, undef, undef, undef], defers := [] }) ?assign ?body ?done ?stop
  case assign =>
    intro l x W K hK
    gi_wp2
    exact hK
  case body =>
    rintro l pre x W1 hl - ⟨hp, c1, c2, hb⟩ ⟨rest, hx⟩
    obtain ⟨y, hy, rfl⟩ : ∃ y, rs[pre.length]? = some y ∧ y.l = x := by
      have h := congrArg (fun t => t[pre.length]?) hx
      simp only [List.getElem?_map, List.getElem?_append_right (Nat.le_refl _), Nat.sub_self, List.getElem?_cons_zero, Option.map_eq_some_iff] at h
      exact h
    have hyo := HG.out.ok y (List.mem_of_getElem? hy)
    have HPs := Lib.hid (fun w h => parts_is y hyo w h)
    have hcw : Lib.countByte (⟨y.ws.toArray⟩ : ByteArray).data.toList 32 = y.k := (okLn_all hyo).2.2.2.2.2.2.2.2.1
    have hst := (okLn_all hyo).2.2.2.2.2.2.2.2.2
    have hrm : y.ok = true → y.st + y.k < 256 := fun e => (okLn_room hyo e).2
    have hnext : mt n y = false → ∀ z ∈ rs.take (pre ++ [y.l]).length, mt n z = false := fun e z hz => by
      rw [show (pre ++ [y.l]).length = pre.length + 1 by simp, List.take_add_one, hy] at hz
      rcases List.mem_append.1 hz with hz | hz
      · exact hp z hz
      · simp at hz
        rw [hz]
        exact e
    have HN := Lib.hid hnext
    have HF := Lib.hid (fun e => lineOf_at hy hp e)
    have HC1 := Lib.hid c1
    have HC2 := Lib.hid c2
    have HB := Lib.hid hb
    have HL := Lib.hid hl
    clear hnext hp c1 c2 hb hx hy hyo hl
    gi_wp2_with fail
    refine ⟨trivial, ?_⟩
    gi_at_call 19
    refine (CallsIn.inRound l (callsIn_wide.2 (HPs.out _ (HT.out.bel HB.out)))).mono ?_
    rintro e W2 ⟨rfl, hb2⟩
    have D1 := boxed_bel HC1.out hb2
    have D2 := boxed_bel HC2.out hb2
    have k1 := D1.cell
    have k2 := D2.cell
    have f2 := D2.frozen
    have HD := Lib.hid (And.intro D1 D2)
    have HBB := Lib.hid (HB.out.trans hb2)
    have HK := Lib.hid (Kep.of_bel (b0 := w.heap.size + 2) (b1 := w.heap.size + 5) (E := W.heap.size) hb2)
    clear HC1 HC2 HB hb2 D1 D2 HPs
    obtain ⟨ol, ot, oh, ow, ook, ost, okk, ofs⟩ := y
    dsimp only at hcw hst hrm HN HF HD ⊢
    cases ook with
    | false =>
      have hm0 : mt n ⟨ol, ot, oh, ow, false, ost, okk, ofs⟩ = false := rfl
      gi_wp2_with fail
      refine quiet_round (by kernel_rfl) (by kernel_rfl) (by kernel_rfl) ?_
      repeat
        refine wpQuietIn_step (fun _ _ _ _ => trivial) (fun K hK => ?_)
        go_simp
        first
          | (refine hK _ ?_; clear hK K)
          | (apply Exists.intro; refine ⟨fun _ => ?_, hK _ ?_⟩; fail; clear hK K)
      refine wpQuietIn_nil ?_
      rintro _ ⟨nq, rfl⟩
      gi_wp2_with fail
      exact ⟨HK.out.trans (Kep.of_bel ((Bel.refl _).drewN _)), HN.out hm0, HD.out.1, HD.out.2, HBB.out.drewN _⟩
    | true =>
      have hr2 := hrm rfl
      clear hrm
      by_cases h1 : ost ≤ n
      · have q1 : decide (ost ≤ n) = true := by simpa using h1
        have q2 : IntKind.i64.wrap (n - ost) = n - ost := by rw [IntKind.wrap_i64]; omega
        have HCt := Lib.hid (fun w => strings_Count_one ⟨ow.toArray⟩ 32 w)
        rw [hcw] at HCt
        by_cases h2 : n - ost ≤ okk
        · have hm1 : mt n ⟨ol, ot, oh, ow, true, ost, okk, ofs⟩ = true := by simp [mt, h1, h2]
          have q3 : decide (n - ost ≤ (okk : Int)) = true := by simpa using h2
          have HE := Lib.hid (HF.out hm1)
          clear HF HN h1 h2 hr2 hcw hm1
          gi_wp2_with fail
          refine quiet_round (by kernel_rfl) (by kernel_rfl) (by kernel_rfl) ?_
          repeat
            refine wpQuietIn_step (fun _ _ _ _ => trivial) (fun K hK => ?_)
            go_simp
            first
              | (refine hK _ ?_; clear hK K)
              | (apply Exists.intro; refine ⟨fun _ => ?_, hK _ ?_⟩; (gi_at_call 20; exact CallsIn.quiet_of_same (callsIn_wide.2 (HCt.out _))); clear hK K)
          refine wpQuietIn_nil ?_
          rintro _ ⟨nq, rfl⟩
          gi_wp2_with fail
          have eq : w.heap.size + 2 ≤ W.heap.size := by have := HZ.out; omega
          have d2 : Boxed (W2.drewN nq) (w.heap.size + 1) 31 (.string ⟨#[]⟩) := boxed_bel HD.out.2 ((Bel.refl _).drewN _)
          refine ⟨HK.out.trans ((Kep.of_bel ((Bel.refl _).drewN nq)).trans (Kep.cell _ _ _ ?_ ?_)), ?_, Below.setCell (HBB.out.drewN nq) (p := ⟨w.heap.size + 1, 0, none⟩) (by simp) _⟩
          · show w.heap.size + 1 < W.heap.size
            omega
          · show ¬ (w.heap.size + 2 ≤ w.heap.size + 1 ∧ w.heap.size + 1 < w.heap.size + 5)
            omega
          · rw [HE.out]
            exact d2.set _
        · have hm1 : mt n ⟨ol, ot, oh, ow, true, ost, okk, ofs⟩ = false := by simp [mt, h1, h2]
          have q3 : decide (n - ost ≤ (okk : Int)) = false := by simpa using h2
          have HE := Lib.hid (HN.out hm1)
          clear HF HN h1 h2 hr2 hcw hm1
          gi_wp2_with fail
          refine quiet_round (by kernel_rfl) (by kernel_rfl) (by kernel_rfl) ?_
          repeat
            refine wpQuietIn_step (fun _ _ _ _ => trivial) (fun K hK => ?_)
            go_simp
            first
              | (refine hK _ ?_; clear hK K)
              | (apply Exists.intro; refine ⟨fun _ => ?_, hK _ ?_⟩; (gi_at_call 20; exact CallsIn.quiet_of_same (callsIn_wide.2 (HCt.out _))); clear hK K)
          refine wpQuietIn_nil ?_
          rintro _ ⟨nq, rfl⟩
          gi_wp2_with fail
          exact ⟨HK.out.trans (Kep.of_bel ((Bel.refl _).drewN _)), HE.out, HD.out.1, HD.out.2, HBB.out.drewN _⟩
      · have hm1 : mt n ⟨ol, ot, oh, ow, true, ost, okk, ofs⟩ = false := by simp [mt, h1]
        have q1 : decide (ost ≤ n) = false := by simpa using h1
        have HE := Lib.hid (HN.out hm1)
        clear HF HN h1 hr2 hcw hm1
        gi_wp2_with fail
        refine quiet_round (by kernel_rfl) (by kernel_rfl) (by kernel_rfl) ?_
        repeat
          refine wpQuietIn_step (fun _ _ _ _ => trivial) (fun K hK => ?_)
          go_simp
          first
            | (refine hK _ ?_; clear hK K)
            | (apply Exists.intro; refine ⟨fun _ => ?_, hK _ ?_⟩; fail; clear hK K)
        refine wpQuietIn_nil ?_
        rintro _ ⟨nq, rfl⟩
        gi_wp2_with fail
        exact ⟨HK.out.trans (Kep.of_bel ((Bel.refl _).drewN _)), HE.out, HD.out.1, HD.out.2, HBB.out.drewN _⟩
  case done =>
    rintro W1 ⟨hp, c1, c2, hb⟩ hK
    have hln : lineOf rs n = noLn := lineOf_none fun z hz => hp z (by rw [List.length_map, List.take_length]; exact hz)
    have k2 := c2.cell
    have f2 := c2.frozen
    have eq : w.heap.size + 2 ≤ W.heap.size := by have := HZ.out; omega
    gi_wp2
    have hK' := (KeepsOthers.setCell W1 ⟨w.heap.size + 1, 0, none⟩ (.string ⟨#[]⟩)).same _ _ hK rfl
    have d2 := boxed_put (c2.set (.string ⟨#[]⟩)) (l := W.heap.size) (by omega) (.deferred none)
    have e2 := d2.cell
    refine ⟨by simp, .inl ⟨_, _, rfl, run_takeDeferred hK', ?_⟩⟩
    refine ⟨.string ⟨#[]⟩, ?_, by rw [hln]; rfl, bel_put (Below.setCell hb (p := ⟨w.heap.size + 1, 0, none⟩) (by simp) _) (by omega) _⟩
    simp [results, Tryd.f14, go_sem, e2]
  case stop =>
    rintro W1 ⟨c2, hb⟩ hK
    have eq : w.heap.size + 2 ≤ W.heap.size := by have := HZ.out; omega
    have d2 := boxed_put c2 (l := W.heap.size) (by omega) (.deferred none)
    have e2 := d2.cell
    gi_wp2
    refine ⟨by simp, .inl ⟨_, _, rfl, run_takeDeferred hK, ?_⟩⟩
    refine ⟨.string ⟨(lineOf rs n).l.toArray⟩, ?_, rfl, bel_put hb (by omega) _⟩
    simp [results, Tryd.f14, go_sem, e2]
end Go.Proofs.YtdjaacmaljcnhaaDoor.U
