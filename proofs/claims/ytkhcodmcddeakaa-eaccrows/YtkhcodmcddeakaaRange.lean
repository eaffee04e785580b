/- A range over a run's 'codes': by what its body does in a round; the body may write what is its own. No condition. -/
import Derived.Test.YtkhcodmcddeakaaIter
namespace Go.Proofs.Ytkhcodmcddeakaa.U
open Go.RowKit Go.Shelf
set_option linter.unusedVariables false

/-- How a round may be left: it goes on, or it returns; what is no row of cells lies as it lay. -/
def endsR (I : List (Int × Int) → World → Prop) (Ix : World → Prop) (pre : List (Int × Int)) (W : World) : Exit → Act → World → Prop
  | .normal, _, W' => KeepsOthers W W' ∧ I pre W'
  | .ret, _, W' => KeepsOthers W W' ∧ Ix W'
  | _, _, _ => False

theorem range_codes (tb : List (Int × Int)) {P : Program} {m gf : Nat} {g : Operand} {ps : Array Tmp} {assign body : Code} {Q : Exit → Act → World → Prop} {a : Act} {Wz : World} {pb : Array Value}
    (h1 : 1 ≤ m) (hg : a.eval g = .func (.func gf) pb #[]) (eg : ∀ args w, (callFunc gf args).run P w = .ok (.enter gf args) w) (hps : ps.size = 2)
    (I : List (Int × Int) → World → Prop) (Ix : World → Prop)
    (hIp : ∀ pre W o L, I pre W → W.heap[Wz.heap.size + 1]? = some (.loop L) → I pre (W.putObj (Wz.heap.size + 1) o)) (hXp : ∀ W o L, Ix W → W.heap[Wz.heap.size + 1]? = some (.loop L) → Ix (W.putObj (Wz.heap.size + 1) o))
    (hIa : ∀ pre W o, I pre W → I pre (W.alloc o))
    (hIi : ∀ pre W G s p p', I pre W → Wz.heap.size + 2 ≤ G → W.heap[G]? = some (.stringIter s p) → I pre (W.iterAt G s p'))
    (h0 : I [] Wz) (a₁ : Int × Int → Act)
    (hassign : ∀ (l : Nat) (x : Int × Int) (W : World) (K : Act → World → Prop), K (a₁ x) W →
      assign.wpIn (Fence.wide.inRound l) (m - 1 - 1) P (Exit.then K (fun _ _ _ => False)) { tmps := (ps.zip #[.int .i64 x.1, .int .i32 x.2]).foldl (fun t (p, v) => t.setIfInBounds p v) a.tmps, defers := [] } W)
    (hbody : ∀ (l : Nat) (pre : List (Int × Int)) (x : Int × Int) (W : World), I pre W → (∃ rest, tb = pre ++ x :: rest) → body.wpIn (Fence.wide.inRound l) (m - 1 - 1) P (endsR I Ix (pre ++ [x]) W) (a₁ x) W)
    (hit : ∀ (J Jx : List (Int × Int) → World → Prop), (∀ pre W o, J pre W → J pre (W.alloc o)) →
      (∀ pre W G s p p', J pre W → Wz.heap.size + 2 ≤ G → W.heap[G]? = some (.stringIter s p) → J pre (W.iterAt G s p')) →
      (∀ pre x W, J pre W → (∃ rest, tb = pre ++ x :: rest) → YieldAt Fence.wide (m - 1 - 1) P (Wz.heap.size + 1) #[.int .i64 x.1, .int .i32 x.2] W fun e W' =>
        (e = .returned (.bool true) ∧ J (pre ++ [x]) W' ∧ KeptI W W') ∨ (e = .returned (.bool false) ∧ Jx (pre ++ [x]) W')) →
      ∀ W, Wz.heap.size + 1 < W.heap.size → J [] W →
      CallsIn Fence.wide (m - 1) P gf (pb ++ #[.func (.yield (Wz.heap.size + 1)) #[] #[]]) W fun e W' => (∃ v, e = .returned v) ∧ (J tb W' ∨ ∃ pre, Jx pre W'))
    (hdone : ∀ W, I tb W → W.heap[Wz.heap.size]? = some (.deferred (some [])) → Q .normal { a with defers := { target := .collected Wz.heap.size, args := #[] } :: a.defers } W)
    (hstop : ∀ W, Ix W → W.heap[Wz.heap.size]? = some (.deferred (some [])) → Code.ret.wpIn Fence.wide m P Q { a with defers := { target := .collected Wz.heap.size, args := #[] } :: a.defers } W) :
    (Code.rangeFunc g ps assign body).wpIn Fence.wide m P Q a Wz := by
  refine wpIn_rangeFunc fun fn _ => ?_
  let rc : LoopState → Option Code → Loop := fun st pe => { state := st, pending := pe, fn, tmps := a.tmps, params := ps, assign, body, defers := Wz.heap.size }
  let W1 : World := (Wz.alloc (.deferred (some []))).alloc (.loop (rc .ready none))
  have hsz : (Wz.alloc (.deferred (some []))).heap.size = Wz.heap.size + 1 := World.size_alloc _ _
  have hl1 : W1.heap[Wz.heap.size + 1]? = some (.loop (rc .ready none)) := by
    have h := World.alloc_heap_new (Wz.alloc (.deferred (some []))) (.loop (rc .ready none))
    rwa [hsz] at h
  have hd1 : W1.heap[Wz.heap.size]? = some (.deferred (some [])) :=
    (Below.block ((Bel.refl (Wz.alloc (.deferred (some [])))).alloc (.loop (rc .ready none))) _ (by rw [hsz]; omega)).trans (World.alloc_heap_new Wz _)
  have put_d : ∀ (W : World) (o : Obj), W.heap[Wz.heap.size]? = some (.deferred (some [])) → (W.putObj (Wz.heap.size + 1) o).heap[Wz.heap.size]? = some (.deferred (some [])) := fun W o h => (World.putObj_heap_other (by omega)).trans h
  refine ⟨Wz.heap.size + 1, [{ target := .collected Wz.heap.size, args := #[] }], W1, { target := .fn (.func gf) #[], args := pb ++ #[.func (.yield (Wz.heap.size + 1)) #[] #[]] }, W1, gf, pb ++ #[.func (.yield (Wz.heap.size + 1)) #[] #[]], W1, ?_, ?_, fun _ _ => trivial, ?_, fun _ => h1, ?_⟩
  · exact run_enterLoop_outer fn a.tmps ps assign body
  · simp only [resolve, hg]
    simp [go_sem]
  · simp [invoke, go_sem, eg]
  refine (hit (fun pre W => I pre W ∧ W.heap[Wz.heap.size + 1]? = some (.loop (rc .ready none)) ∧ W.heap[Wz.heap.size]? = some (.deferred (some [])))
    (fun _ W => Ix W ∧ W.heap[Wz.heap.size + 1]? = some (.loop (rc .done (some .ret))) ∧ W.heap[Wz.heap.size]? = some (.deferred (some [])))
    (fun pre W o h => ⟨hIa _ _ _ h.1, (Lib.alloc_old W o _ (Array.getElem?_eq_some_iff.1 h.2.1).1).trans h.2.1, (Lib.alloc_old W o _ (Array.getElem?_eq_some_iff.1 h.2.2).1).trans h.2.2⟩)
    (fun pre W G s p p' h hG hs => ⟨hIi _ _ _ _ _ _ h.1 hG hs, (Lib.iterAt_other W G _ s p' (by omega)).trans h.2.1, (Lib.iterAt_other W G _ s p' (by omega)).trans h.2.2⟩)
    ?_ W1 (Array.getElem?_eq_some_iff.1 hl1).1 ⟨hIa _ _ _ (hIa _ _ _ h0), hl1, hd1⟩).mono ?_
  · rintro pre x W ⟨hi, hl, hd⟩ hx
    have hlt : Wz.heap.size + 1 < W.heap.size := (Array.getElem?_eq_some_iff.1 hl).1
    refine ⟨fn, _, assign, body, run_yield hl hps.symm, roundIn_of_wpIn trivial (hassign _ x W _ ⟨_, run_beginRound hl rfl, ?_⟩)⟩
    have hl2 : (W.putObj (Wz.heap.size + 1) (.loop { rc .ready none with state := .busy })).heap[Wz.heap.size + 1]? = some (.loop { rc .ready none with state := .busy }) := World.putObj_heap_same hlt
    have hd2 := put_d W (.loop { rc .ready none with state := .busy }) hd
    refine wpIn_mono (hbody _ pre x _ (hIp _ _ _ _ hi hl) hx) ?_
    rintro e a3 W3 hp
    cases e with
    | normal =>
      obtain ⟨hk, hi3⟩ := hp
      have hl3 := hk.same _ _ hl2 rfl
      have hd3 := hk.same _ _ hd2 rfl
      have hlt3 : Wz.heap.size + 1 < W3.heap.size := (Array.getElem?_eq_some_iff.1 hl3).1
      refine ⟨_, _, run_endRound none hl3, .inl ⟨rfl, ⟨hIp _ _ _ _ hi3 hl3, World.putObj_heap_same hlt3, put_d _ _ hd3⟩, ?_, ?_⟩⟩
      · have h := hk.size
        rw [World.putObj_size] at h ⊢
        exact h
      · intro j s p hj
        have hjl : j ≠ Wz.heap.size + 1 := fun e => by rw [e, hl] at hj; cases hj
        exact (World.putObj_heap_other hjl).trans (hk.same _ _ ((World.putObj_heap_other hjl).trans hj) rfl)
    | ret =>
      obtain ⟨hk, hx3⟩ := hp
      have hl3 := hk.same _ _ hl2 rfl
      have hd3 := hk.same _ _ hd2 rfl
      exact ⟨_, _, run_endRound (some .ret) hl3, .inr ⟨rfl, hXp _ _ _ hx3 hl3, World.putObj_heap_same (Array.getElem?_eq_some_iff.1 hl3).1, put_d _ _ hd3⟩⟩
    | exit id => exact hp.elim
    | goto t => exact hp.elim
    | panic ch => exact hp.elim
    | outgrown => exact hp.elim
  · rintro e W2 ⟨⟨v, rfl⟩, (⟨hi, hl, hd⟩ | ⟨pre, hi, hl, hd⟩)⟩
    · exact ⟨none, _, run_endLoop hl (by simp [rc]), hdone _ (hIp _ _ _ _ hi hl) (put_d _ _ hd)⟩
    · exact ⟨some .ret, _, run_endLoop hl (by simp [rc]), hstop _ (hXp _ _ _ hi hl) (put_d _ _ hd)⟩
end Go.Proofs.Ytkhcodmcddeakaa.U
