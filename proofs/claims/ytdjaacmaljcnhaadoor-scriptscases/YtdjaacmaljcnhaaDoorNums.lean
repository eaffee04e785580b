/- What lines.Text.Numbers tells of one checked line: each number that has a character, and the character, in order, until it is told to stop. Tables as they are laid. -/
import Derived.Test.YtdjaacmaljcnhaaDoorLine
namespace Go.Proofs.YtdjaacmaljcnhaaDoor.U
open Go.RowKit Go.Shelf
set_option linter.unusedVariables false
attribute [local go_sem] Oper.semAt_some

theorem outW_snoc (n : Int) : ∀ (a : List (List UInt8)) (x : List UInt8), outW n (a ++ [x]) = outW n a ++ (if x = [45] then [] else [(n + a.length, chr x)])
  | [], x => by simp [outW]
  | y :: a, x => by
    simp only [List.cons_append, outW, outW_snoc (n + 1) a x, List.append_assoc, List.length_cons, Int.natCast_add, Int.natCast_one]
    rw [show n + 1 + (a.length : Int) = n + ((a.length : Int) + 1) by omega]
theorem outW_append (n : Int) : ∀ (a b : List (List UInt8)), outW n (a ++ b) = outW n a ++ outW (n + a.length) b
  | [], b => by simp [outW]
  | x :: a, b => by
    simp only [List.cons_append, outW, List.append_assoc, outW_append (n + 1) a b, List.length_cons, Int.natCast_add, Int.natCast_one]
    rw [show n + 1 + (a.length : Int) = n + ((a.length : Int) + 1) by omega]
def enc2 (x : Int × Int) : Array Value := #[.int .i64 x.1, .int .i32 x.2]
/-- Between two lines. -/
def NInv (x : Ln) (l0 E0 B : Nat) (J : List (Int × Int) → World → Prop) (pre : List (List UInt8)) (W : World) : Prop :=
  ((pre = [] ∧ J [] W) ∨ (pre = [x.l] ∧ J (outW x.st x.fs) W)) ∧ Boxed W B 42 (.func (.yield l0) #[] #[])
def NFnd (Jx : List (Int × Int) → World → Prop) (W : World) : Prop := ∃ pre, Jx pre W
/-- Between two words. -/
def WInv (x : Ln) (l0 B nb b0 b1 E : Nat) (W2 : World) (J : List (Int × Int) → World → Prop) (pre : List (List UInt8)) (W : World) : Prop :=
  J (outW x.st pre) W ∧ Boxed W nb 3 (.int .i64 (x.st + pre.length)) ∧ Boxed W B 42 (.func (.yield l0) #[] #[]) ∧ Kep b0 b1 E W2 W
theorem Kep.tch {b0 b1 E c0 c1 F : Nat} {A W W' : World} (h : Kep b0 b1 E A W) (hc : Tch c0 c1 F W W') (h0 : A.heap.size ≤ c0) (hF : A.heap.size ≤ F) : Kep b0 b1 E A W' :=
  ⟨Nat.le_trans h.size hc.size, fun j hj hk => (hc.block j (by omega) (by omega)).trans (h.block j hj hk)⟩
theorem below_put {E0 : Nat} (W : World) (l : Nat) (o : Obj) (h : E0 ≤ l) : Below E0 W (W.putObj l o) := (Tch.put (b0 := E0) (b1 := E0) (E := E0) W l o (.inl h)).to_below (Nat.le_refl _) (Nat.le_refl _)
def WFnd (b0 b1 E : Nat) (W2 : World) (Jx : List (Int × Int) → World → Prop) (W : World) : Prop := (∃ pre, Jx pre W) ∧ Kep b0 b1 E W2 W

/-- What a round answers, as one word. -/
def YPost (E0 : Nat) (A B : World → Prop) (W : World) (e : Ending) (W' : World) : Prop := ∃ b : Bool, e = .returned (.bool b) ∧ (b = true → A W') ∧ (b = false → B W') ∧ Kep 0 0 E0 W W'
theorem YPost.of {E0 : Nat} {A B : World → Prop} {W : World} (e : Ending) (W' : World) (h : ((e = .returned (.bool true) ∧ A W') ∨ (e = .returned (.bool false) ∧ B W')) ∧ Kep 0 0 E0 W W') : YPost E0 A B W e W' := by
  obtain ⟨(⟨rfl, h⟩ | ⟨rfl, h⟩), hk⟩ := h
  · exact ⟨true, rfl, fun _ => h, (fun e => by cases e), hk⟩
  · exact ⟨false, rfl, (fun e => by cases e), fun _ => h, hk⟩
theorem bb_two {A B : Prop} {bb : Bool} (h1 : bb = true → A) (h2 : bb = false → B) : (bb = false ∧ Hid B) ∨ (bb = true ∧ Hid A) := by
  cases bb with
  | false => exact .inl ⟨rfl, h2 rfl⟩
  | true => exact .inr ⟨rfl, h1 rfl⟩
theorem w_end {x : Ln} {l0 B nb b0 b1 E E0 F : Nat} {W2 W Wa : World} {J : List (Int × Int) → World → Prop} {pre : List (List UInt8)} {y : List UInt8} {v : Int} (hv : v = x.st + pre.length)
    (hJc : ∀ pre W W', J pre W → Below E0 W W' → J pre W') (hJ : J (outW x.st (pre ++ [y])) Wa) (n : Boxed Wa nb 3 (.int .i64 v)) (c : Boxed Wa B 42 (.func (.yield l0) #[] #[])) (hk : Kep b0 b1 E W2 Wa) (hw : Kep (nb + 1) (nb + 2) F W Wa)
    (h2 : W2.heap.size ≤ nb) (hF : nb < F) (hE : E0 ≤ nb) (hB : B ≠ nb) :
    Kep (nb + 1) (nb + 2) F W (Wa.setCell ⟨nb, 0, none⟩ (.int .i64 (v + 1))) ∧ WInv x l0 B nb b0 b1 E W2 J (pre ++ [y]) (Wa.setCell ⟨nb, 0, none⟩ (.int .i64 (v + 1))) := by
  have hb : Below E0 Wa (Wa.setCell ⟨nb, 0, none⟩ (.int .i64 (v + 1))) := (Below.refl E0 Wa).setCell (p := ⟨nb, 0, none⟩) hE _
  refine ⟨hw.trans (Kep.cell _ _ _ hF (by show ¬ (nb + 1 ≤ nb ∧ nb < nb + 2); omega)), hJc _ _ _ hJ hb, ?_, c.other hB _, hk.tch (c0 := nb) (c1 := nb + 1) (F := nb) (Tch.cell _ _ _ (.inl (Nat.le_refl _))) h2 h2⟩
  have h := n.set (.int .i64 (v + 1))
  have e : x.st + ((pre ++ [y]).length : Int) = v + 1 := by simp; omega
  rw [e]
  exact h

set_option maxRecDepth 100000 in
set_option maxHeartbeats 8000000 in
theorem numbers_in (x : Ln) (hx : okLn x = true) (Wz : World) : Seq Tryd.prog enc2 (outW x.st x.fs) 0 0 15 #[.string ⟨x.l.toArray⟩] #[] Tz Wz := by
  intro l0 E0 J Jx hZ hJ hJx hY W hl hlE hE hW h0
  obtain ⟨h1, h2, h3, h4, h5, h6, h7, h8, h9, h10, h11⟩ := okLn_all hx
  have HZ := Lib.hid hZ
  have HJ := Lib.hid (fun pre W W' (h : J pre W) (hb : Below E0 W W') => hJ pre W W' h (Tch.below hb))
  have HX := Lib.hid (fun pre W W' (h : Jx pre W) (hb : Below E0 W W') => hJx pre W W' h (Tch.below hb))
  have HY := Lib.hid hY
  have HE := Lib.hid hE
  have HL0 := Lib.hid hlE
  have H0 := Lib.hid h0
  have HP := Lib.hid (fun w h => parts_is x hx w h)
  have HW := Lib.hid h7
  clear hZ hJ hJx hY hE hlE h0 hW hl h2 h3 h7 h9 hx
  refine (callsIn_wide (n := 10)).1 ?_
  refine callsIn_of_wp_marks Tryd.func15 rfl trivial ?_ rfl
  simp only [Tryd.ntmps15, List.size_toArray, List.length_cons, List.length_nil, Nat.reduceAdd, Nat.reduceSub, Array.replicate_succ, Array.replicate_zero, List.push_toArray, List.append_toArray, List.nil_append, List.cons_append]
  gi_wp2_with fail
  refine ⟨trivial, ?_⟩
  gi_at_call 18
  refine (callsIn_wide.2 (splitSeq_make x.l 10 _)).mono ?_
  rintro e W1 ⟨rfl, hz, hB, s0, s1, s2⟩
  have b1 : Boxed (W.alloc (.cells #[.func (.yield l0) #[] #[]] 42)) W.heap.size 42 (.func (.yield l0) #[] #[]) := Boxed.new W _ _
  have hB0 : Bel W (W.alloc (.cells #[.func (.yield l0) #[] #[]] 42)) := (Bel.refl W).alloc _
  have hz0 : (W.alloc (.cells #[.func (.yield l0) #[] #[]] 42)).heap.size = W.heap.size + 1 := by simp
  generalize (W.alloc (.cells #[.func (.yield l0) #[] #[]] 42)) = W0 at hz hB s0 s1 s2 b1 hB0 hz0 ⊢
  rw [hz0] at hz s0 s1 s2 ⊢
  have hseq := split_in 10 x.l _ h5 (by omega) (W.heap.size + 1) W1 Tz (by omega) s0 s1 s2
  have HI0 : Hid (NInv x l0 E0 W.heap.size J [] W1) := Lib.hid ⟨.inl ⟨rfl, HJ.out _ _ _ H0.out (Below.mono (hB0.trans hB) HE.out)⟩, boxed_bel b1 hB⟩
  have HS := Lib.hid hz
  clear b1 hB0 hz0 hB s0 s1 s2 hz H0 h5
  obtain ⟨B, hBW⟩ : ∃ B, B = W.heap.size := ⟨_, rfl⟩
  rw [← hBW] at HE HI0 HS hseq ⊢
  have HB := Lib.hid hBW
  clear hBW
  gi_wp2_with fail
  refine range_top (fun x : List UInt8 => #[.string ⟨x.toArray⟩]) [x.l] (B + 1) (B + 4) (by decide) (by have := HS.out; omega) rfl (enters_of Tryd.func33 (by kernel_rfl) rfl) (fun _ => rfl) hseq
    (NInv x l0 E0 B J) (NFnd Jx) (fun pre W h => by rcases h.1 with ⟨_, h⟩ | ⟨_, h⟩ <;> exact HZ.out _ _ h)
    (fun pre W W' h hc => ⟨by
        have hb : Below E0 W W' := hc.to_below (by have := HE.out; omega) (by have := HE.out; have := HS.out; omega)
        rcases h.1 with ⟨e, h⟩ | ⟨e, h⟩
        · exact .inl ⟨e, HJ.out _ _ _ h hb⟩
        · exact .inr ⟨e, HJ.out _ _ _ h hb⟩, hc.boxed h.2 (by have := HS.out; omega) (by omega)⟩)
    (fun W W' h hc => by
        obtain ⟨pre, h⟩ := h
        exact ⟨pre, HX.out _ _ _ h (hc.to_below (by have := HE.out; omega) (by have := HE.out; have := HS.out; omega))⟩) HI0.out
    (fun y => { tmps := #[.string ⟨x.l.toArray⟩, .func (.yield l0) #[] #[], undef, .pointer (some ⟨B, 0, none⟩), .string ⟨y.toArray⟩, undef, undef, undef, undef, .string ⟨x.l.toArray⟩,
      .func (.func 33) #[] #[.pointer (some ⟨B + 1 + 1, 0, none⟩), .pointer (some ⟨B + 1, 0, none⟩), .pointer (some ⟨B + 1 + 2, 0, none⟩)], .string ⟨y.toArray⟩,
      undef, undef, undef, undef, undef, undef, undef, undef, undef, undef, undef, undef, undef, undef, undef, undef, undef, undef, undef, undef, undef], defers := [] }) ?assign ?body ?done ?stop
  case assign =>
    intro l y W K hK
    gi_wp2
    exact hK
  case body =>
    rintro l1 pre y W2 hl1 ⟨r1, hr1⟩ ⟨hp, c1⟩ ⟨rest, hx⟩
    obtain ⟨rfl, rfl⟩ : pre = [] ∧ y = x.l := by
      rcases pre with _ | ⟨a, pre⟩
      · simp at hx
        exact ⟨rfl, hx.1.symm⟩
      · simp at hx
    have hJ2 : J [] W2 := by
      rcases hp with ⟨_, h⟩ | ⟨h, _⟩
      · exact h
      · simp at h
    clear hp hx
    have hW2 : W1.heap.size < W2.heap.size := by
      have := (Array.getElem?_eq_some_iff.1 hr1).1
      omega
    have HW2 := Lib.hid hW2
    have HJ2 := Lib.hid hJ2
    have HC1 := Lib.hid c1
    have HL1 := Lib.hid hl1
    have HR1 := Lib.hid hr1
    clear hJ2 c1 hl1 hr1 hW2
    gi_wp2_with fail
    refine ⟨trivial, ?_⟩
    gi_at_call 19
    refine (CallsIn.inRound l1 (callsIn_wide.2 (HP.out _ (HZ.out _ _ HJ2.out)))).mono ?_
    rintro e W3 ⟨rfl, hb3⟩
    gi_wp2_with fail
    refine ⟨trivial, ?_⟩
    gi_at_call 21
    refine (CallsIn.inRound l1 (callsIn_wide.2 (fieldsSeq_make x.ws _))).mono ?_
    rintro e W5 ⟨rfl, hz5, hb5, f0⟩
    have n4 : Boxed (W3.alloc (.cells #[.int .i64 x.st] 3)) W3.heap.size 3 (.int .i64 x.st) := Boxed.new W3 _ _
    have hz4 : (W3.alloc (.cells #[.int .i64 x.st] 3)).heap.size = W3.heap.size + 1 := by simp
    have hb4 : Bel W3 (W3.alloc (.cells #[.int .i64 x.st] 3)) := (Bel.refl W3).alloc _
    generalize (W3.alloc (.cells #[.int .i64 x.st] 3)) = W4 at n4 hz4 hb4 hz5 hb5 f0 ⊢
    rw [hz4] at hz5 f0 ⊢
    have hbb : Bel W2 W5 := (Bel.trans hb3 hb4).trans hb5
    obtain ⟨nb, hnb⟩ : ∃ nb, nb = W3.heap.size := ⟨_, rfl⟩
    have h23 : W2.heap.size ≤ nb := by rw [hnb]; exact Below.size hb3
    rw [← hnb] at n4 hz5 f0 ⊢
    have hr5 : W5.heap[l1]? = some (.loop r1) := (Below.block hbb l1 (Array.getElem?_eq_some_iff.1 HR1.out).1).trans HR1.out
    have hseq2 := fields_in x.ws x.fs h6 (by omega) (nb + 1) W5 (by omega) f0
    have hW2 := HW2.out
    have hS1 := HS.out
    have hE0 := HE.out
    have HK0 : Hid (WInv x l0 B nb (B + 1) (B + 4) W1.heap.size W2 J [] W5) := Lib.hid ⟨HJ.out _ _ _ HJ2.out (Below.mono hbb (by omega)), by simpa using boxed_bel n4 hb5, boxed_bel HC1.out hbb, Kep.of_bel hbb⟩
    have HZ5 := Lib.hid hz5
    have HN2 := Lib.hid h23
    clear hb3 hb4 hb5 hbb n4 hz4 f0 hnb h6 HJ2 HC1 h23 hz5 hW2 hS1 hE0
    gi_wp2_with fail
    refine range_in (fun x : List UInt8 => #[.string ⟨x.toArray⟩]) x.fs (nb + 1) (nb + 2) hr5 (by decide) (by have := HZ5.out; omega) rfl (enters_of Tryd.func30 (by kernel_rfl) rfl) (fun _ => rfl) hseq2
      (WInv x l0 B nb (B + 1) (B + 4) W1.heap.size W2 J) (WFnd (B + 1) (B + 4) W1.heap.size W2 Jx) (fun pre W h => HZ.out _ _ h.1)
      (fun pre W W' h hc => by
        have q1 := HZ5.out
        have q2 := HN2.out
        have q3 := HW2.out
        have q4 := HS.out
        have q5 := HE.out
        exact ⟨HJ.out _ _ _ h.1 (hc.to_below (by omega) (by omega)), hc.boxed h.2.1 (by omega) (by omega), hc.boxed h.2.2.1 (by omega) (by omega), h.2.2.2.tch hc (by omega) (by omega)⟩)
      (fun W W' h hc => by
        have q1 := HZ5.out
        have q2 := HN2.out
        have q3 := HW2.out
        have q4 := HS.out
        have q5 := HE.out
        obtain ⟨⟨pre, h1⟩, h2⟩ := h
        exact ⟨⟨pre, HX.out _ _ _ h1 (hc.to_below (by omega) (by omega))⟩, h2.tch hc (by omega) (by omega)⟩) HK0.out
      (fun y => { tmps := #[.string ⟨x.l.toArray⟩, .func (.yield l0) #[] #[], undef, .pointer (some ⟨B, 0, none⟩), .string ⟨x.l.toArray⟩, .pointer (some ⟨nb, 0, none⟩), .string ⟨x.ws.toArray⟩, .bool x.ok, .string ⟨y.toArray⟩, .string ⟨x.l.toArray⟩,
        .func (.func 33) #[] #[.pointer (some ⟨B + 1 + 1, 0, none⟩), .pointer (some ⟨B + 1, 0, none⟩), .pointer (some ⟨B + 1 + 2, 0, none⟩)], .string ⟨x.l.toArray⟩,
        .tuple #[.int .i64 x.st, .string ⟨x.ws.toArray⟩, .bool x.ok], .string ⟨x.l.toArray⟩, .tuple #[.int .i64 x.st, .string ⟨x.ws.toArray⟩, .bool x.ok], .int .i64 x.st, .string ⟨x.ws.toArray⟩, .bool x.ok, .string ⟨x.ws.toArray⟩,
        .func (.func 30) #[] #[.pointer (some ⟨nb + 1, 0, none⟩)], .string ⟨y.toArray⟩, undef, undef, undef, undef, undef, undef, undef, undef, undef, undef, undef, undef], defers := [] }) ?assign2 ?body2 ?done2 ?stop2
    case assign2 =>
      intro l y W K hK
      gi_wp2
      exact hK
    case body2 =>
      rintro l2 pre y W6 hl2 - ⟨hJ6, n6, c6, hk6⟩ ⟨rest, hx⟩
      have hlen : pre.length < 100 := by
        have h := congrArg List.length hx
        simp at h
        omega
      obtain ⟨v, hv⟩ : ∃ v : Int, v = x.st + pre.length := ⟨_, rfl⟩
      have hv1 : wrap64 (v + 1) = v + 1 := by unfold wrap64; omega
      have hyW := HW.out y (by rw [hx]; simp)
      rw [← hv] at n6
      have k6 := n6.cell
      have f6 := n6.frozen
      have k7 := c6.cell
      have HJ6 := Lib.hid hJ6
      have HN6 := Lib.hid n6
      have HC6 := Lib.hid c6
      have HK6 := Lib.hid hk6
      have HV := Lib.hid hv
      clear hJ6 n6 c6 hk6 hl2 hlen
      by_cases hy : y = [45]
      · have hb1 : ((⟨y.toArray⟩ : ByteArray).toList == [45]) = true := by
          rw [ByteArray.toList_eq]
          simpa using hy
        have HE1 : Hid (outW x.st (pre ++ [y]) = outW x.st pre) := Lib.hid (by rw [outW_snoc, if_pos hy, List.append_nil])
        clear hx hv hyW
        gi_wp2_with fail
        refine quiet_round (by kernel_rfl) (by kernel_rfl) (by kernel_rfl) ?_
        repeat
          refine wpQuietIn_step (fun _ _ _ _ => trivial) (fun K hK => ?_)
          go_simp
          refine hK _ ?_
          clear hK K
        refine wpQuietIn_nil ?_
        rintro _ ⟨nq, rfl⟩
        gi_wp2_with fail
        have q1 := HZ5.out
        have q2 := HN2.out
        have q3 := HW2.out
        have q4 := HS.out
        have q5 := HE.out
        have hd : Bel W6 (W6.drewN nq) := (Bel.refl _).drewN nq
        exact w_end HV.out HJ.out (by rw [HE1.out]; exact HJ.out _ _ _ HJ6.out (Below.mono hd (by have := HK6.out.size; omega))) (boxed_bel HN6.out hd) (boxed_bel HC6.out hd) (HK6.out.trans (Kep.of_bel hd)) (Kep.of_bel hd) (by omega) (by omega) (by omega) (by omega)
      · have hb1 : ((⟨y.toArray⟩ : ByteArray).toList == [45]) = false := by
          rw [ByteArray.toList_eq]
          simpa using hy
        have hb2 : (y == [45]) = false := by simpa using hy
        have HE1 : Hid (outW x.st (pre ++ [y]) = outW x.st pre ++ [(v, chr y)]) := Lib.hid (by rw [outW_snoc, if_neg hy, hv])
        have HR : Hid (∃ rest', outW x.st x.fs = outW x.st pre ++ (v, chr y) :: rest') := Lib.hid ⟨outW (x.st + (pre.length : Int) + 1) rest, by rw [hx, outW_append, hv]; simp [outW, hy]⟩
        have HCh := Lib.hid (fun w h => char_is y w hyW h)
        have hd : Bel W6 W6.drew := (Bel.refl _).drew
        have HJd : Hid (J (outW x.st pre) W6.drew) := Lib.hid (HJ.out _ _ _ HJ6.out (Below.mono hd (by have := HK6.out.size; have := HW2.out; have := HS.out; have := HE.out; omega)))
        have HWd : Hid (E0 ≤ W6.drew.heap.size) := Lib.hid (by have := HK6.out.size; have := HW2.out; have := HS.out; have := HE.out; show E0 ≤ W6.heap.size; omega)
        have HNd : Hid (Boxed W6.drew nb 3 (.int .i64 v)) := Lib.hid (boxed_bel HN6.out hd)
        have HCd : Hid (Boxed W6.drew B 42 (.func (.yield l0) #[] #[])) := Lib.hid (boxed_bel HC6.out hd)
        have HKd := Lib.hid (HK6.out.trans (Kep.of_bel hd))
        have HKw : Hid (Kep (nb + 1) (nb + 2) W5.heap.size W6 W6.drew) := Lib.hid (Kep.of_bel hd)
        clear hx hv hyW hd
        generalize hcy : chr y = cy at HE1 HR HCh
        clear hcy
        gi_wp2_with fail
        gi_region_with (first | (refine ⟨trivial, ?_⟩; gi_at_call 22; refine (CallsIn.inRound l2 (callsIn_wide.2 (HCh.out _ (HZ.out _ _ HJd.out)))).mono ?_; rintro e w5 ⟨rfl, hb5⟩; have HJ5 := Lib.hid (HJ.out _ _ _ HJd.out (Below.mono hb5 HWd.out)); have N5 := boxed_bel HNd.out hb5; have C5 := boxed_bel HCd.out hb5; have k8 := N5.cell; have k9 := C5.cell; have HK5 := Lib.hid (HKd.out.trans (Kep.of_bel hb5)); have HKw5 := Lib.hid (HKw.out.trans (Kep.of_bel hb5)); have HB5 := Lib.hid (And.intro N5 C5); clear hb5 N5 C5; obtain ⟨fn, tmps, assign, body, hyy, hR⟩ := HY.out _ (v, cy) w5 HJ5.out HR.out; have HRo := Lib.hid hR; clear hR; dsimp only [enc2] at hyy) | (refine ((roundIn_any HRo.out).mono (fun e w7 h => YPost.of e w7 h)).mono ?_; rintro e w7 ⟨bb, rfl, hj7, hx7, hk7⟩; have HJ7 := Lib.hid hj7; have HX7 := Lib.hid hx7; have HK7 := Lib.hid hk7; clear hj7 hx7 hk7))
        all_goals have q1 := HZ5.out
        all_goals have q2 := HN2.out
        all_goals have q3 := HW2.out
        all_goals have q4 := HS.out
        all_goals have q5 := HE.out
        all_goals have N7 := HK7.out.boxed HB5.out.1 (.inr (by omega))
        all_goals have C7 := HK7.out.boxed HB5.out.2 (.inr (by omega))
        all_goals have HN7 := Lib.hid (And.intro N7 C7)
        all_goals have kA := N7.cell
        all_goals have fA := N7.frozen
        all_goals have HKa : Hid (Kep (B + 1) (B + 4) W1.heap.size W2 w7) := Lib.hid (HK5.out.trans (HK7.out.wide (by omega) (by omega)))
        all_goals have HKb : Hid (Kep (nb + 1) (nb + 2) W5.heap.size W6 w7) := Lib.hid (HKw5.out.trans (HK7.out.wide (by omega) (by omega)))
        all_goals clear N7 C7 k6 f6 k7 k8 k9 q1 q2 q3 q4 q5
        all_goals have HJ8 : bb = true → J (outW x.st (pre ++ [y])) w7 := by rw [HE1.out]; exact HJ7.out
        all_goals have hc := bb_two HJ8 HX7.out
        all_goals clear HJ8
        all_goals clear HJ7 HX7
        all_goals rcases hc with ⟨rfl, hH⟩ | ⟨rfl, hH⟩
        all_goals gi_wp2_with fail
        all_goals have q1 := HZ5.out
        all_goals have q2 := HN2.out
        all_goals have q3 := HW2.out
        all_goals have q4 := HS.out
        all_goals have q5 := HE.out
        all_goals first | exact ⟨HKb.out, ⟨_, hH.out⟩, HKa.out⟩ | exact w_end HV.out HJ.out hH.out HN7.out.1 HN7.out.2 HKa.out HKb.out (by omega) (by omega) (by omega) (by omega)
    case done2 =>
      rintro W9 ⟨hJ9, -, c9, hk9⟩
      have HQ := Lib.hid (And.intro hJ9 (And.intro c9 hk9))
      clear hJ9 c9 hk9
      gi_wp2
      exact ⟨HQ.out.2.2, .inr ⟨rfl, HQ.out.1⟩, HQ.out.2.1⟩
    case stop2 =>
      rintro W9 ⟨hX9, hk9⟩
      have HQ := Lib.hid (And.intro hX9 hk9)
      clear hX9 hk9
      gi_wp2
      exact ⟨HQ.out.2, HQ.out.1⟩
  case done =>
    rintro W9 ⟨hp, c1⟩ hK
    have hJ9 : J (outW x.st x.fs) W9 := by
      rcases hp with ⟨h, _⟩ | ⟨_, h⟩
      · simp at h
      · exact h
    have HJ9 := Lib.hid hJ9
    clear hp hJ9
    gi_wp2
    refine ⟨by simp, .inl ⟨_, _, rfl, run_takeDeferred hK, ?_⟩⟩
    exact ⟨_, results_none rfl _ _ _, ⟨⟨_, rfl⟩, .inl (HJ.out _ _ _ HJ9.out (below_put _ _ _ (by have := HE.out; have := HS.out; omega)))⟩⟩
  case stop =>
    rintro W9 ⟨pre, hX⟩ hK
    have HX9 := Lib.hid hX
    clear hX
    gi_wp2
    refine ⟨by simp, .inl ⟨_, _, rfl, run_takeDeferred hK, ?_⟩⟩
    exact ⟨_, results_none rfl _ _ _, ⟨⟨_, rfl⟩, .inr ⟨pre, HX.out _ _ _ HX9.out (below_put _ _ _ (by have := HE.out; have := HS.out; omega))⟩⟩⟩
end Go.Proofs.YtdjaacmaljcnhaaDoor.U
