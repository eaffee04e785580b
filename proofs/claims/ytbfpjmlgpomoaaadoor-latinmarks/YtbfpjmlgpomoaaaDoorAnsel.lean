/- What latin.Ansel and scripts.Rune answer of any number: the character that the chapter's list has for it, or none. Tables as they are laid. -/
import Derived.Test.YtbfpjmlgpomoaaaDoorIter
namespace Go.Proofs.YtbfpjmlgpomoaaaDoor.U
open Go.RowKit Go.Shelf
set_option linter.unusedVariables false
attribute [local go_sem] Oper.semAt_some

/-- Between two rounds. -/
def Inv (n : Int) (B : Nat) (w : World) (pre : List (Int × Int)) (W : World) : Prop :=
  (∀ p ∈ pre, p.1 ≠ n) ∧ Boxed W B 3 (.int .i64 n) ∧ Boxed W (B + 1) 21 (.int .i32 0) ∧ Boxed W (B + 2) 4 (.bool false) ∧ Bel w W
/-- A round has found it. -/
def Fnd (tb : List (Int × Int)) (n : Int) (B : Nat) (w : World) (W : World) : Prop :=
  ∃ r, look tb n = (r, true) ∧ Boxed W (B + 1) 21 (.int .i32 r) ∧ Boxed W (B + 2) 4 (.bool true) ∧ Bel w W

theorem bel_put {w W : World} {l : Nat} (h : Bel w W) (hl : w.heap.size ≤ l) (o : Obj) : Bel w (W.putObj l o) :=
  ⟨h.os, h.tape, h.output, by rw [World.putObj_size]; exact h.size, fun j hj => (World.putObj_heap_other (by omega)).trans (h.block j hj)⟩
theorem boxed_put {W : World} {B t l : Nat} {v : Value} (h : Boxed W B t v) (hl : B ≠ l) (o : Obj) : Boxed (W.putObj l o) B t v := (World.putObj_heap_other hl).trans h
theorem boxed_bel {W W' : World} {B t : Nat} {v : Value} (h : Boxed W B t v) (hb : Bel W W') : Boxed W' B t v := (hb.block B h.lt).trans h
theorem Inv.put {n : Int} {B l : Nat} {w W : World} {pre : List (Int × Int)} (h : Inv n B w pre W) (h1 : B + 2 < l) (h2 : w.heap.size ≤ l) (o : Obj) : Inv n B w pre (W.putObj l o) :=
  ⟨h.1, boxed_put h.2.1 (by omega) o, boxed_put h.2.2.1 (by omega) o, boxed_put h.2.2.2.1 (by omega) o, bel_put h.2.2.2.2 h2 o⟩
theorem Inv.bel {n : Int} {B : Nat} {w W W' : World} {pre : List (Int × Int)} (h : Inv n B w pre W) (hb : Bel W W') : Inv n B w pre W' :=
  ⟨h.1, boxed_bel h.2.1 hb, boxed_bel h.2.2.1 hb, boxed_bel h.2.2.2.1 hb, h.2.2.2.2.trans hb⟩
theorem Fnd.put {tb : List (Int × Int)} {n : Int} {B l : Nat} {w W : World} (h : Fnd tb n B w W) (h1 : B + 2 < l) (h2 : w.heap.size ≤ l) (o : Obj) : Fnd tb n B w (W.putObj l o) := by
  obtain ⟨r, h0, h3, h4, h5⟩ := h
  exact ⟨r, h0, boxed_put h3 (by omega) o, boxed_put h4 (by omega) o, bel_put h5 h2 o⟩

/-- How a round may be left: it goes on and has changed nothing, or it returns. -/
def endsR (I : List (Int × Int) → World → Prop) (Ix : World → Prop) (pre : List (Int × Int)) (W : World) : Exit → Act → World → Prop
  | .normal, _, W' => W' = W ∧ I pre W
  | .ret, _, W' => KeepsOthers W W' ∧ Ix W'
  | _, _, _ => False

/-- A range over a method's value that tells the chapter's list: by what its body does in a round. -/
theorem range_bound (tb : List (Int × Int)) {P : Program} {m gf : Nat} {g : Operand} {ps : Array Tmp} {assign body : Code} {Q : Exit → Act → World → Prop} {a : Act} {Wz : World} {pb : Array Value}
    (h1 : 1 ≤ m) (hg : a.eval g = .func (.func gf) pb #[]) (eg : ∀ args w, (callFunc gf args).run P w = .ok (.enter gf args) w) (hps : ps.size = 2)
    (I : List (Int × Int) → World → Prop) (Ix : World → Prop)
    (hIp : ∀ pre W o, I pre W → I pre (W.putObj (Wz.heap.size + 1) o)) (hXp : ∀ W o, Ix W → Ix (W.putObj (Wz.heap.size + 1) o))
    (hIb : ∀ pre W W', I pre W → Bel W W' → I pre W') (h0 : I [] Wz) (a₁ : Int × Int → Act)
    (hassign : ∀ (l : Nat) (x : Int × Int) (W : World) (K : Act → World → Prop), K (a₁ x) W →
      assign.wpIn (Fence.wide.inRound l) (m - 1 - 1) P (Exit.then K (fun _ _ _ => False)) { tmps := (ps.zip #[.int .i64 x.1, .int .i32 x.2]).foldl (fun t (p, v) => t.setIfInBounds p v) a.tmps, defers := [] } W)
    (hbody : ∀ (l : Nat) (pre : List (Int × Int)) (x : Int × Int) (W : World), I pre W → (∃ rest, tb = pre ++ x :: rest) → body.wpIn (Fence.wide.inRound l) (m - 1 - 1) P (endsR I Ix (pre ++ [x]) W) (a₁ x) W)
    (hit : ∀ (J Jx : List (Int × Int) → World → Prop), (∀ pre W, J pre W → I pre W) → (∀ pre W W', J pre W → Bel W W' → J pre W') →
      (∀ pre x W, J pre W → (∃ rest, tb = pre ++ x :: rest) → YieldAt Fence.wide (m - 1 - 1) P (Wz.heap.size + 1) #[.int .i64 x.1, .int .i32 x.2] W fun e W' =>
        (e = .returned (.bool true) ∧ J (pre ++ [x]) W' ∧ Kept (Wz.heap.size + 1) W W') ∨ (e = .returned (.bool false) ∧ Jx (pre ++ [x]) W')) →
      ∀ W, Wz.heap.size + 1 < W.heap.size → J [] W →
      CallsIn Fence.wide (m - 1) P gf (pb ++ #[.func (.yield (Wz.heap.size + 1)) #[] #[]]) W fun e W' => (∃ v, e = .returned v) ∧ (J tb W' ∨ ∃ pre, Jx pre W'))
    (hdone : ∀ W, I tb W → W.heap[Wz.heap.size]? = some (.deferred (some [])) → Q .normal { a with defers := { target := .collected Wz.heap.size, args := #[] } :: a.defers } W)
    (hstop : ∀ W, Ix W → W.heap[Wz.heap.size]? = some (.deferred (some [])) → Code.ret.wpIn Fence.wide m P Q { a with defers := { target := .collected Wz.heap.size, args := #[] } :: a.defers } W) :
    (Code.rangeFunc g ps assign body).wpIn Fence.wide m P Q a Wz := by
  refine wpIn_rangeFunc fun fn _ => ?_
  let rc : LoopState → Option Code → Loop := fun st pe => { state := st, pending := pe, fn, tmps := a.tmps, params := ps, assign, body, defers := Wz.heap.size }
  let W1 : World := (Wz.alloc (.deferred (some []))).alloc (.loop (rc .ready none))
  have hsz : (Wz.alloc (.deferred (some []))).heap.size = Wz.heap.size + 1 := World.size_alloc _ _
  have hl1 : W1.heap[Wz.heap.size + 1]? = some (.loop (rc .ready none)) := by
    have h := World.alloc_heap_new (Wz.alloc (.deferred (some []))) (.loop (rc .ready none))
    rwa [hsz] at h
  have hb : Bel Wz W1 := ((Bel.refl Wz).alloc _).alloc _
  have hd1 : W1.heap[Wz.heap.size]? = some (.deferred (some [])) :=
    (Below.block ((Bel.refl (Wz.alloc (.deferred (some [])))).alloc (.loop (rc .ready none))) _ (by rw [hsz]; omega)).trans (World.alloc_heap_new Wz _)
  have put_d : ∀ (W : World) (o : Obj), W.heap[Wz.heap.size]? = some (.deferred (some [])) → (W.putObj (Wz.heap.size + 1) o).heap[Wz.heap.size]? = some (.deferred (some [])) := fun W o h => (World.putObj_heap_other (by omega)).trans h
  refine ⟨Wz.heap.size + 1, [{ target := .collected Wz.heap.size, args := #[] }], W1, { target := .fn (.func gf) #[], args := pb ++ #[.func (.yield (Wz.heap.size + 1)) #[] #[]] }, W1, gf, pb ++ #[.func (.yield (Wz.heap.size + 1)) #[] #[]], W1, ?_, ?_, fun _ _ => trivial, ?_, fun _ => h1, ?_⟩
  · exact run_enterLoop_outer fn a.tmps ps assign body
  · simp only [resolve, hg]
    simp [go_sem]
  · simp [invoke, go_sem, eg]
  refine (hit (fun pre W => I pre W ∧ W.heap[Wz.heap.size + 1]? = some (.loop (rc .ready none)) ∧ W.heap[Wz.heap.size]? = some (.deferred (some [])))
    (fun _ W => Ix W ∧ W.heap[Wz.heap.size + 1]? = some (.loop (rc .done (some .ret))) ∧ W.heap[Wz.heap.size]? = some (.deferred (some [])))
    (fun _ _ h => h.1)
    (fun pre W W' h hb => ⟨hIb _ _ _ h.1 hb, (Below.block hb _ (Array.getElem?_eq_some_iff.1 h.2.1).1).trans h.2.1, (Below.block hb _ (Array.getElem?_eq_some_iff.1 h.2.2).1).trans h.2.2⟩)
    ?_ W1 (Array.getElem?_eq_some_iff.1 hl1).1 ⟨hIb _ _ _ h0 hb, hl1, hd1⟩).mono ?_
  · rintro pre x W ⟨hi, hl, hd⟩ hx
    have hlt : Wz.heap.size + 1 < W.heap.size := (Array.getElem?_eq_some_iff.1 hl).1
    refine ⟨fn, _, assign, body, run_yield hl hps.symm, roundIn_of_wpIn trivial (hassign _ x W _ ⟨_, run_beginRound hl rfl, ?_⟩)⟩
    have hl2 : (W.putObj (Wz.heap.size + 1) (.loop { rc .ready none with state := .busy })).heap[Wz.heap.size + 1]? = some (.loop { rc .ready none with state := .busy }) := World.putObj_heap_same hlt
    have hd2 := put_d W (.loop { rc .ready none with state := .busy }) hd
    refine wpIn_mono (hbody _ pre x _ (hIp _ _ _ hi) hx) ?_
    rintro e a3 W3 hp
    cases e with
    | normal =>
      obtain ⟨rfl, hi3⟩ := hp
      refine ⟨_, _, run_endRound none hl2, .inl ⟨rfl, ⟨hIp _ _ _ hi3, World.putObj_heap_same (by rw [World.putObj_size]; exact hlt), put_d _ _ hd2⟩, ?_, ?_⟩⟩
      · rw [World.putObj_size, World.putObj_size]; exact Nat.le_refl _
      · exact fun j hj _ => (World.putObj_heap_other hj).trans (World.putObj_heap_other hj)
    | ret =>
      obtain ⟨hk, hx3⟩ := hp
      have hl3 := hk.same _ _ hl2 rfl
      have hd3 := hk.same _ _ hd2 rfl
      exact ⟨_, _, run_endRound (some .ret) hl3, .inr ⟨rfl, hXp _ _ hx3, World.putObj_heap_same (Array.getElem?_eq_some_iff.1 hl3).1, put_d _ _ hd3⟩⟩
    | exit id => exact hp.elim
    | goto t => exact hp.elim
    | panic ch => exact hp.elim
    | outgrown => exact hp.elim
  · rintro e W2 ⟨⟨v, rfl⟩, (⟨hi, hl, hd⟩ | ⟨pre, hi, hl, hd⟩)⟩
    · exact ⟨none, _, run_endLoop hl (by simp [rc]), hdone _ (hIp _ _ _ hi) (put_d _ _ hd)⟩
    · exact ⟨some .ret, _, run_endLoop hl (by simp [rc]), hstop _ (hXp _ _ hi) (put_d _ _ hd)⟩

set_option maxRecDepth 100000 in
set_option maxHeartbeats 2000000 in
theorem ansel_is (n : Int) (w : World) (hT : Tz w) : Calls Tryd.prog 8 #[.int .i64 n] w fun e w' => e = .returned (.tuple #[.int .i32 (look tabA n).1, .bool (look tabA n).2]) ∧ Bel w w' := by
  have hG : Good (strAt Tryd.f8 0) tabA lnsA wdsA := goodA
  refine (callsIn_wide (n := 4)).1 ?_
  refine callsIn_of_wp_marks Tryd.func8 body8 trivial ?_ rfl
  generalize posAt Tryd.f8 = p
  unfold code8
  generalize strAt Tryd.f8 0 = S at hG ⊢
  generalize htb : tabA = tb at hG ⊢
  clear htb
  simp only [Tryd.ntmps8, List.size_toArray, List.length_cons, List.length_nil, Nat.reduceAdd, Nat.reduceSub, Array.replicate_succ, Array.replicate_zero, List.push_toArray, List.append_toArray, List.nil_append, List.cons_append]
  gi_wp2_with fail
  have b1 : Boxed (((w.alloc (.cells #[.int .i64 n] 3)).alloc (.cells #[.int .i32 0] 21)).alloc (.cells #[.bool false] 4)) w.heap.size 3 (.int .i64 n) := ((Boxed.new w 3 _).alloc _).alloc _
  have b2 : Boxed (((w.alloc (.cells #[.int .i64 n] 3)).alloc (.cells #[.int .i32 0] 21)).alloc (.cells #[.bool false] 4)) (w.heap.size + 1) 21 (.int .i32 0) := by
    have h := (Boxed.new (w.alloc (.cells #[.int .i64 n] 3)) 21 (.int .i32 0)).alloc (.cells #[.bool false] 4)
    rwa [World.size_alloc] at h
  have b3 : Boxed (((w.alloc (.cells #[.int .i64 n] 3)).alloc (.cells #[.int .i32 0] 21)).alloc (.cells #[.bool false] 4)) (w.heap.size + 2) 4 (.bool false) := by
    have h := Boxed.new ((w.alloc (.cells #[.int .i64 n] 3)).alloc (.cells #[.int .i32 0] 21)) 4 (.bool false)
    rwa [World.size_alloc, World.size_alloc] at h
  have hB : Bel w (((w.alloc (.cells #[.int .i64 n] 3)).alloc (.cells #[.int .i32 0] 21)).alloc (.cells #[.bool false] 4)) := (((Bel.refl w).alloc _).alloc _).alloc _
  have hz : (((w.alloc (.cells #[.int .i64 n] 3)).alloc (.cells #[.int .i32 0] 21)).alloc (.cells #[.bool false] 4)).heap.size = w.heap.size + 3 := by simp
  generalize (((w.alloc (.cells #[.int .i64 n] 3)).alloc (.cells #[.int .i32 0] 21)).alloc (.cells #[.bool false] 4)) = Wz at b1 b2 b3 hB hz ⊢
  have HI0 := Lib.hid (⟨by simp, b1, b2, b3, hB⟩ : Inv n w.heap.size w [] Wz)
  have HZ := Lib.hid hz
  have HT := Lib.hid hT
  have HG := Lib.hid hG
  clear b1 b2 b3 hB hz hT hG
  have eq2 : w.heap.size + 2 = w.heap.size + 1 + 1 := rfl
  refine range_bound tb (by decide) rfl (enters_of Tryd.func14 (by kernel_rfl) rfl) rfl (Inv n w.heap.size w) (Fnd tb n w.heap.size w)
    (fun pre W o h => h.put (by have := HZ.out; omega) (by have := HZ.out; omega) o) (fun W o h => h.put (by have := HZ.out; omega) (by have := HZ.out; omega) o) (fun pre W W' h hb => h.bel hb) HI0.out
    (fun x => { tmps := #[.int .i64 n, .pointer (some ⟨w.heap.size, 0, none⟩), .pointer (some ⟨w.heap.size + 1, 0, none⟩), .pointer (some ⟨w.heap.size + 1 + 1, 0, none⟩), .int .i64 x.1, .int .i32 x.2, .func (.func 14) #[.string S] #[], .int .i64 x.1, .int .i32 x.2, undef, undef, undef, undef], defers := [] }) ?assign ?body ?it ?done ?stop
  case assign =>
    intro l x W K hK
    gi_wp2
    exact hK
  case it =>
    intro J Jx hJI hJb hY W hl hj
    exact numbers_in 3 _ (by decide) w HT.out S tb _ _ HG.out J Jx (fun pre W h => (hJI pre W h).2.2.2.2) hJb hY W hl hj
  case body =>
    rintro l pre x W ⟨hp, c1, c2, c3, hB⟩ hx
    rw [eq2] at c3
    have k1 := c1.cell
    have k2 := c2.cell
    have k3 := c3.cell
    have f2 := c2.frozen
    have f3 := c3.frozen
    have HC2 := Lib.hid c2
    have HC3 := Lib.hid c3
    have HC1 := Lib.hid c1
    have HB := Lib.hid hB
    have HX := Lib.hid hx
    have HP := Lib.hid hp
    clear c1 c2 c3 hB hx hp
    gi_wp2
    · rename_i he
      have he' : x.1 = n := by simpa using he
      obtain ⟨rest, hr⟩ := HX.out
      refine ⟨(KeepsOthers.setCell _ _ _).trans (KeepsOthers.setCell _ _ _), x.2, ?_, ?_, ?_, ?_⟩
      · exact look_hit (rest := rest) (by rw [hr, ← he']) HP.out
      · exact (HC2.out.set _).other (by omega) _
      · exact (HC3.out.other (by omega) _).set _
      · exact (Below.setCell HB.out (p := ⟨w.heap.size + 1, 0, none⟩) (by simp) _).setCell (p := ⟨w.heap.size + 1 + 1, 0, none⟩) (by simp; omega) _
    · rename_i he
      refine ⟨rfl, fun p hp => ?_, HC1.out, HC2.out, HC3.out, HB.out⟩
      rcases List.mem_append.1 hp with hp | hp
      · exact HP.out p hp
      · simp at hp
        subst hp
        simpa using he
  case done =>
    rintro W ⟨hp, c1, c2, c3, hB⟩ hK
    rw [eq2] at c3
    have k2 := c2.cell
    have k3 := c3.cell
    have f2 := c2.frozen
    have f3 := c3.frozen
    gi_wp2
    have hK' := ((KeepsOthers.setCell W ⟨w.heap.size + 1, 0, none⟩ (.int .i32 0)).trans (KeepsOthers.setCell _ ⟨w.heap.size + 1 + 1, 0, none⟩ (.bool false))).same _ _ hK rfl
    have d2 := boxed_put ((c2.set (.int .i32 0)).other (B' := w.heap.size + 1 + 1) (by omega) (.bool false)) (l := Wz.heap.size) (by have := HZ.out; omega) (.deferred none)
    have d3 := boxed_put ((c3.other (B' := w.heap.size + 1) (by omega) (.int .i32 0)).set (.bool false)) (l := Wz.heap.size) (by have := HZ.out; omega) (.deferred none)
    have e2 := d2.cell
    have e3 := d3.cell
    refine ⟨by simp, .inl ⟨_, _, rfl, run_takeDeferred hK', ?_⟩⟩
    rw [look_miss hp]
    refine ⟨.tuple #[.int .i32 0, .bool false], ?_, rfl, bel_put ((Below.setCell hB (p := ⟨w.heap.size + 1, 0, none⟩) (by simp) _).setCell (p := ⟨w.heap.size + 1 + 1, 0, none⟩) (by simp; omega) _) (by have := HZ.out; omega) _⟩
    simp [results, Tryd.f8, go_sem, e2, e3]
  case stop =>
    rintro W ⟨r, hr, c2, c3, hB⟩ hK
    rw [eq2] at c3
    have d2 := boxed_put c2 (l := Wz.heap.size) (by have := HZ.out; omega) (.deferred none)
    have d3 := boxed_put c3 (l := Wz.heap.size) (by have := HZ.out; omega) (.deferred none)
    have e2 := d2.cell
    have e3 := d3.cell
    gi_wp2
    refine ⟨by simp, .inl ⟨_, _, rfl, run_takeDeferred hK, ?_⟩⟩
    refine ⟨.tuple #[.int .i32 r, .bool true], ?_, rfl, bel_put hB (by have := HZ.out; omega) _⟩
    simp [results, Tryd.f8, go_sem, e2, e3]
end Go.Proofs.YtbfpjmlgpomoaaaDoor.U
