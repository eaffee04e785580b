/- A range over a function, at the top of a call or within a round of another one: by what its body does in a round, over an iterator that keeps its state in blocks of its own. No condition. -/
import Derived.RangeFuncNested
import Derived.RangeFuncBound
import Derived.RangeFuncCalls
import Derived.RangeFuncLeaves
import Derived.Shelf.Abstract
import Derived.Shelf.RegionOpen
import Derived.WalkKit
import Derived.OwnWalkIn
import Derived.TacticsInMore
import Derived.LoopNIn
import Derived.LoopIn
import Derived.Test.YtdjaacmaljcnhaaDoorBase
namespace Go.Proofs.YtdjaacmaljcnhaaDoor.U
open Go.RowKit Go.Shelf
set_option linter.unusedVariables false

/-- Below E nothing is touched but the blocks from b0 up to b1. -/
structure Tch (b0 b1 E : Nat) (W W' : World) : Prop where
  os : W'.os = W.os
  tape : W'.tape = W.tape
  output : W'.output = W.output
  size : W.heap.size ≤ W'.heap.size
  block : ∀ j, j < E → ¬ (b0 ≤ j ∧ j < b1) → W'.heap[j]? = W.heap[j]?
/-- The blocks from b0 up to b1 lie as they lay, and so do those from E on that were there. -/
structure Kep (b0 b1 E : Nat) (W W' : World) : Prop where
  size : W.heap.size ≤ W'.heap.size
  block : ∀ j, j < W.heap.size → (b0 ≤ j ∧ j < b1) ∨ E ≤ j → W'.heap[j]? = W.heap[j]?
theorem Tch.refl (b0 b1 E : Nat) (W : World) : Tch b0 b1 E W W := ⟨rfl, rfl, rfl, Nat.le_refl _, fun _ _ _ => rfl⟩
theorem Tch.trans {b0 b1 E : Nat} {A B C : World} (h : Tch b0 b1 E A B) (k : Tch b0 b1 E B C) : Tch b0 b1 E A C :=
  ⟨k.os.trans h.os, k.tape.trans h.tape, k.output.trans h.output, Nat.le_trans h.size k.size, fun j h1 h2 => (k.block j h1 h2).trans (h.block j h1 h2)⟩
theorem Tch.below {b0 b1 E : Nat} {W W' : World} (h : Below E W W') : Tch b0 b1 E W W' := ⟨h.os, h.tape, h.output, h.size, fun j h1 _ => h.block j h1⟩
theorem Tch.to_below {b0 b1 E B : Nat} {W W' : World} (h : Tch b0 b1 E W W') (h0 : B ≤ b0) (h1 : B ≤ E) : Below B W W' := ⟨h.os, h.tape, h.output, h.size, fun j hj => h.block j (by omega) (by omega)⟩
theorem Tch.mono {b0 b1 E E' : Nat} {W W' : World} (h : Tch b0 b1 E W W') (hE : E' ≤ E) : Tch b0 b1 E' W W' := ⟨h.os, h.tape, h.output, h.size, fun j h1 h2 => h.block j (by omega) h2⟩
theorem Tch.of_bel {b0 b1 E : Nat} {W W' : World} (h : Bel W W') (hE : E ≤ W.heap.size) : Tch b0 b1 E W W' := Tch.below (Below.mono h hE)
theorem Tch.put {b0 b1 E : Nat} (W : World) (l : Nat) (o : Obj) (hl : E ≤ l ∨ (b0 ≤ l ∧ l < b1)) : Tch b0 b1 E W (W.putObj l o) :=
  ⟨rfl, rfl, rfl, by rw [World.putObj_size]; exact Nat.le_refl _, fun j h1 h2 => World.putObj_heap_other (by omega)⟩
theorem Tch.cell {b0 b1 E : Nat} (W : World) (p : Addr) (v : Value) (hl : E ≤ p.block ∨ (b0 ≤ p.block ∧ p.block < b1)) : Tch b0 b1 E W (W.setCell p v) :=
  ⟨rfl, rfl, rfl, by simp [World.setCell], fun j h1 h2 => Below.heap_setCell _ _ _ _ (by omega)⟩
theorem Tch.boxed {b0 b1 E B t : Nat} {v : Value} {W W' : World} (h : Tch b0 b1 E W W') (hb : Boxed W B t v) (h1 : B < E) (h2 : ¬ (b0 ≤ B ∧ B < b1)) : Boxed W' B t v := (h.block B h1 h2).trans hb
theorem Kep.refl (b0 b1 E : Nat) (W : World) : Kep b0 b1 E W W := ⟨Nat.le_refl _, fun _ _ _ => rfl⟩
theorem Kep.trans {b0 b1 E : Nat} {A B C : World} (h : Kep b0 b1 E A B) (k : Kep b0 b1 E B C) : Kep b0 b1 E A C :=
  ⟨Nat.le_trans h.size k.size, fun j h1 h2 => (k.block j (Nat.lt_of_lt_of_le h1 h.size) h2).trans (h.block j h1 h2)⟩
theorem Kep.of_bel {b0 b1 E : Nat} {W W' : World} (h : Bel W W') : Kep b0 b1 E W W' := ⟨Below.size h, fun j h1 _ => Below.block h j h1⟩
theorem Kep.mono {b0 b1 E E' : Nat} {W W' : World} (h : Kep b0 b1 E W W') (hE : E ≤ E') : Kep b0 b1 E' W W' := ⟨h.size, fun j h1 h2 => h.block j h1 (by omega)⟩
/-- What keeps all from E on keeps other blocks beyond it. -/
theorem Kep.wide {b0 b1 c0 c1 E E' : Nat} {W W' : World} (h : Kep b0 b1 E W W') (h0 : E ≤ c0) (hE : E ≤ E') : Kep c0 c1 E' W W' := ⟨h.size, fun j h1 h2 => h.block j h1 (by omega)⟩
theorem Kep.put {b0 b1 E : Nat} (W : World) (l : Nat) (o : Obj) (hl : l < E) (h2 : b1 ≤ l) : Kep b0 b1 E W (W.putObj l o) :=
  ⟨by rw [World.putObj_size]; exact Nat.le_refl _, fun j _ h => World.putObj_heap_other (by omega)⟩
theorem Kep.cell {b0 b1 E : Nat} (W : World) (p : Addr) (v : Value) (hl : p.block < E) (h2 : ¬ (b0 ≤ p.block ∧ p.block < b1)) : Kep b0 b1 E W (W.setCell p v) :=
  ⟨by simp [World.setCell], fun j _ h => Below.heap_setCell _ _ _ _ (by omega)⟩
theorem Kep.boxed {b0 b1 E B t : Nat} {v : Value} {W W' : World} (h : Kep b0 b1 E W W') (hb : Boxed W B t v) (h1 : (b0 ≤ B ∧ B < b1) ∨ E ≤ B) : Boxed W' B t v := (h.block B hb.lt h1).trans hb

theorem boxed_bel {W W' : World} {B t : Nat} {v : Value} (h : Boxed W B t v) (hb : Bel W W') : Boxed W' B t v := (hb.block B h.lt).trans h
theorem roundIn_any {m m' : Nat} {P : Program} {l : Nat} {f : FuncId} {tmps : Array Value} {assign body : Code} {w : World} {R : Ending → World → Prop} (h : RoundIn Fence.wide m P l f tmps assign body w R) : RoundIn Fence.wide m' P l f tmps assign body w R :=
  ⟨h.1, fun c cs _ => h.2 c cs (room_wide _)⟩
/-- What an iterator tells its caller, told one by one: the list tb, in order, until it is told to stop. Z: what it asks of the world; its state lies in the blocks from b0 up to b1. -/
def Seq {α : Type} (P : Program) (encs : α → Array Value) (tb : List α) (b0 b1 gf : Nat) (pb lb : Array Value) (Z : World → Prop) (Wz : World) : Prop :=
  ∀ (l E : Nat) (J Jx : List α → World → Prop), (∀ pre W, J pre W → Z W) →
    (∀ pre W W', J pre W → Tch b0 b1 E W W' → J pre W') → (∀ pre W W', Jx pre W → Tch b0 b1 E W W' → Jx pre W') →
    (∀ pre x W, J pre W → (∃ rest, tb = pre ++ x :: rest) → YieldAt Fence.wide 0 P l (encs x) W fun e W' =>
      ((e = .returned (.bool true) ∧ J (pre ++ [x]) W') ∨ (e = .returned (.bool false) ∧ Jx (pre ++ [x]) W')) ∧ Kep b0 b1 E W W') →
    ∀ W, Wz.heap.size ≤ l → l < E → E ≤ W.heap.size → (∀ j, b0 ≤ j → j < b1 → W.heap[j]? = Wz.heap[j]?) → J [] W →
      Calls P gf (pb ++ #[.func (.yield l) #[] #[]] ++ lb) W fun e W' => (∃ v, e = .returned v) ∧ (J tb W' ∨ ∃ pre, Jx pre W')

/-- How a round may be left: it goes on, or it returns; what is the iterator's own lies as it lay. -/
def endsB {α : Type} (b0 b1 E : Nat) (I : List α → World → Prop) (Ix : World → Prop) (pre : List α) (W : World) : Exit → Act → World → Prop
  | .normal, _, W' => Kep b0 b1 E W W' ∧ I pre W'
  | .ret, _, W' => Kep b0 b1 E W W' ∧ Ix W'
  | _, _, _ => False

section
variable {α : Type} (encs : α → Array Value) (tb : List α) (b0 b1 : Nat) {P : Program} {m gf : Nat} {g : Operand} {ps : Array Tmp} {assign body : Code} {Q : Exit → Act → World → Prop} {a : Act} {Wz : World} {pb lb : Array Value} {Z : World → Prop}
theorem range_top (h1 : 1 ≤ m) (hb : b1 ≤ Wz.heap.size) (hg : a.eval g = .func (.func gf) pb lb) (eg : ∀ args w, (callFunc gf args).run P w = .ok (.enter gf args) w) (hps : ∀ x, (encs x).size = ps.size)
    (hseq : Seq P encs tb b0 b1 gf pb lb Z Wz) (I : List α → World → Prop) (Ix : World → Prop) (hIZ : ∀ pre W, I pre W → Z W)
    (hI : ∀ pre W W', I pre W → Tch b0 b1 Wz.heap.size W W' → I pre W') (hX : ∀ W W', Ix W → Tch b0 b1 Wz.heap.size W W' → Ix W') (h0 : I [] Wz) (a₁ : α → Act)
    (hassign : ∀ (l : Nat) (x : α) (W : World) (K : Act → World → Prop), K (a₁ x) W →
      assign.wpIn (Fence.wide.inRound l) (m - 1 - 1) P (Exit.then K (fun _ _ _ => False)) { tmps := (ps.zip (encs x)).foldl (fun t (p, v) => t.setIfInBounds p v) a.tmps, defers := [] } W)
    (hbody : ∀ (l : Nat) (pre : List α) (x : α) (W : World), Wz.heap.size ≤ l → (∃ r, W.heap[l]? = some (.loop r)) → I pre W → (∃ rest, tb = pre ++ x :: rest) →
      body.wpIn (Fence.wide.inRound l) (m - 1 - 1) P (endsB b0 b1 Wz.heap.size I Ix (pre ++ [x]) W) (a₁ x) W)
    (hdone : ∀ W, I tb W → W.heap[Wz.heap.size]? = some (.deferred (some [])) → Q .normal { a with defers := { target := .collected Wz.heap.size, args := #[] } :: a.defers } W)
    (hstop : ∀ W, Ix W → W.heap[Wz.heap.size]? = some (.deferred (some [])) → Code.ret.wpIn Fence.wide m P Q { a with defers := { target := .collected Wz.heap.size, args := #[] } :: a.defers } W) :
    (Code.rangeFunc g ps assign body).wpIn Fence.wide m P Q a Wz := by
  refine wpIn_rangeFunc fun fn _ => ?_
  let rc : LoopState → Option Code → Loop := fun st pe => { state := st, pending := pe, fn, tmps := a.tmps, params := ps, assign, body, defers := Wz.heap.size }
  let W1 : World := (Wz.alloc (.deferred (some []))).alloc (.loop (rc .ready none))
  have hsz : (Wz.alloc (.deferred (some []))).heap.size = Wz.heap.size + 1 := World.size_alloc _ _
  have hsz1 : W1.heap.size = Wz.heap.size + 2 := by
    show ((Wz.alloc (.deferred (some []))).alloc (.loop (rc .ready none))).heap.size = _
    rw [World.size_alloc, hsz]
  have hB1 : Bel Wz W1 := ((Bel.refl Wz).alloc _).alloc _
  have hl1 : W1.heap[Wz.heap.size + 1]? = some (.loop (rc .ready none)) := by
    have h := World.alloc_heap_new (Wz.alloc (.deferred (some []))) (.loop (rc .ready none))
    rwa [hsz] at h
  have hd1 : W1.heap[Wz.heap.size]? = some (.deferred (some [])) :=
    (Below.block ((Bel.refl (Wz.alloc (.deferred (some [])))).alloc (.loop (rc .ready none))) _ (by rw [hsz]; omega)).trans (World.alloc_heap_new Wz _)
  have put_d : ∀ (W : World) (o : Obj), W.heap[Wz.heap.size]? = some (.deferred (some [])) → (W.putObj (Wz.heap.size + 1) o).heap[Wz.heap.size]? = some (.deferred (some [])) := fun W o h => (World.putObj_heap_other (by omega)).trans h
  have put_I : ∀ pre (W : World) (o : Obj), I pre W → I pre (W.putObj (Wz.heap.size + 1) o) := fun pre W o h => hI pre W _ h (Tch.put W _ o (.inl (by omega)))
  have put_X : ∀ (W : World) (o : Obj), Ix W → Ix (W.putObj (Wz.heap.size + 1) o) := fun W o h => hX W _ h (Tch.put W _ o (.inl (by omega)))
  refine ⟨Wz.heap.size + 1, [{ target := .collected Wz.heap.size, args := #[] }], W1, { target := .fn (.func gf) lb, args := pb ++ #[.func (.yield (Wz.heap.size + 1)) #[] #[]] }, W1, gf, pb ++ #[.func (.yield (Wz.heap.size + 1)) #[] #[]] ++ lb, W1, ?_, ?_, fun _ _ => trivial, ?_, fun _ => h1, ?_⟩
  · exact run_enterLoop_outer fn a.tmps ps assign body
  · simp only [resolve, hg]
    simp [go_sem]
  · simp [invoke, go_sem, eg]
  refine (callsIn_wide.2 (hseq (Wz.heap.size + 1) (Wz.heap.size + 2) (fun pre W => I pre W ∧ W.heap[Wz.heap.size + 1]? = some (.loop (rc .ready none)) ∧ W.heap[Wz.heap.size]? = some (.deferred (some [])))
    (fun _ W => Ix W ∧ W.heap[Wz.heap.size + 1]? = some (.loop (rc .done (some .ret))) ∧ W.heap[Wz.heap.size]? = some (.deferred (some [])))
    (fun pre W h => hIZ pre W h.1)
    (fun pre W W' h hb' => ⟨hI _ _ _ h.1 (hb'.mono (by omega)), (hb'.block _ (by omega) (by omega)).trans h.2.1, (hb'.block _ (by omega) (by omega)).trans h.2.2⟩)
    (fun _ W W' h hb' => ⟨hX _ _ h.1 (hb'.mono (by omega)), (hb'.block _ (by omega) (by omega)).trans h.2.1, (hb'.block _ (by omega) (by omega)).trans h.2.2⟩)
    ?_ W1 (by omega) (by omega) (by omega) (fun j _ hj => Below.block hB1 j (by omega)) ⟨hI _ _ _ h0 (Tch.of_bel hB1 (Nat.le_refl _)), hl1, hd1⟩)).mono ?_
  · rintro pre x W ⟨hi, hl, hd⟩ hx
    have hlt : Wz.heap.size + 1 < W.heap.size := (Array.getElem?_eq_some_iff.1 hl).1
    refine ⟨fn, _, assign, body, run_yield hl (hps x), roundIn_any (m := m - 1 - 1) (roundIn_of_wpIn trivial (hassign _ x W _ ⟨_, run_beginRound hl rfl, ?_⟩))⟩
    have hl2 : (W.putObj (Wz.heap.size + 1) (.loop { rc .ready none with state := .busy })).heap[Wz.heap.size + 1]? = some (.loop { rc .ready none with state := .busy }) := World.putObj_heap_same hlt
    have hd2 := put_d W (.loop { rc .ready none with state := .busy }) hd
    have hk2 : Kep b0 b1 (Wz.heap.size + 2) W (W.putObj (Wz.heap.size + 1) (.loop { rc .ready none with state := .busy })) := Kep.put W _ _ (by omega) (by omega)
    refine wpIn_mono (hbody _ pre x _ (by omega) ⟨_, hl2⟩ (put_I _ _ _ hi) hx) ?_
    rintro e a3 W3 hp
    cases e with
    | normal =>
      obtain ⟨hk, hi3⟩ := hp
      have hl3 := (hk.block _ (Array.getElem?_eq_some_iff.1 hl2).1 (by omega)).trans hl2
      have hd3 := (hk.block _ (Array.getElem?_eq_some_iff.1 hd2).1 (by omega)).trans hd2
      have hlt3 : Wz.heap.size + 1 < W3.heap.size := (Array.getElem?_eq_some_iff.1 hl3).1
      exact ⟨_, _, run_endRound none hl3, .inl ⟨rfl, put_I _ _ _ hi3, World.putObj_heap_same hlt3, put_d _ _ hd3⟩, (hk2.trans (hk.mono (by omega))).trans (Kep.put _ _ _ (by omega) (by omega))⟩
    | ret =>
      obtain ⟨hk, hx3⟩ := hp
      have hl3 := (hk.block _ (Array.getElem?_eq_some_iff.1 hl2).1 (by omega)).trans hl2
      have hd3 := (hk.block _ (Array.getElem?_eq_some_iff.1 hd2).1 (by omega)).trans hd2
      exact ⟨_, _, run_endRound (some .ret) hl3, .inr ⟨rfl, put_X _ _ hx3, World.putObj_heap_same (Array.getElem?_eq_some_iff.1 hl3).1, put_d _ _ hd3⟩, (hk2.trans (hk.mono (by omega))).trans (Kep.put _ _ _ (by omega) (by omega))⟩
    | exit id => exact hp.elim
    | goto t => exact hp.elim
    | panic ch => exact hp.elim
    | outgrown => exact hp.elim
  · rintro e W2 ⟨⟨v, rfl⟩, (⟨hi, hl, hd⟩ | ⟨pre, hi, hl, hd⟩)⟩
    · exact ⟨none, _, run_endLoop hl (by simp [rc]), hdone _ (put_I _ _ _ hi) (put_d _ _ hd)⟩
    · exact ⟨some .ret, _, run_endLoop hl (by simp [rc]), hstop _ (put_X _ _ hi) (put_d _ _ hd)⟩

/-- .. within a round of loop l₀. -/
theorem range_in {l₀ : Nat} {r₀ : Loop} (hl₀ : Wz.heap[l₀]? = some (.loop r₀)) (h1 : 1 ≤ m) (hb : b1 ≤ Wz.heap.size) (hg : a.eval g = .func (.func gf) pb lb) (eg : ∀ args w, (callFunc gf args).run P w = .ok (.enter gf args) w) (hps : ∀ x, (encs x).size = ps.size)
    (hseq : Seq P encs tb b0 b1 gf pb lb Z Wz) (I : List α → World → Prop) (Ix : World → Prop) (hIZ : ∀ pre W, I pre W → Z W)
    (hI : ∀ pre W W', I pre W → Tch b0 b1 Wz.heap.size W W' → I pre W') (hX : ∀ W W', Ix W → Tch b0 b1 Wz.heap.size W W' → Ix W') (h0 : I [] Wz) (a₁ : α → Act)
    (hassign : ∀ (l : Nat) (x : α) (W : World) (K : Act → World → Prop), K (a₁ x) W →
      assign.wpIn (Fence.wide.inRound l) (m - 1 - 1) P (Exit.then K (fun _ _ _ => False)) { tmps := (ps.zip (encs x)).foldl (fun t (p, v) => t.setIfInBounds p v) a.tmps, defers := [] } W)
    (hbody : ∀ (l : Nat) (pre : List α) (x : α) (W : World), Wz.heap.size ≤ l → (∃ r, W.heap[l]? = some (.loop r)) → I pre W → (∃ rest, tb = pre ++ x :: rest) →
      body.wpIn (Fence.wide.inRound l) (m - 1 - 1) P (endsB b0 b1 Wz.heap.size I Ix (pre ++ [x]) W) (a₁ x) W)
    (hdone : ∀ W, I tb W → Q .normal a W)
    (hstop : ∀ W, Ix W → Code.ret.wpIn (Fence.wide.inRound l₀) m P Q a W) :
    (Code.rangeFunc g ps assign body).wpIn (Fence.wide.inRound l₀) m P Q a Wz := by
  refine wpIn_rangeFunc fun fn _ => ?_
  let rc : LoopState → Option Code → Loop := fun st pe => { state := st, pending := pe, fn, tmps := a.tmps, params := ps, assign, body, defers := r₀.defers }
  let W1 : World := Wz.alloc (.loop (rc .ready none))
  have hsz1 : W1.heap.size = Wz.heap.size + 1 := World.size_alloc _ _
  have hB1 : Bel Wz W1 := (Bel.refl Wz).alloc _
  have hl1 : W1.heap[Wz.heap.size]? = some (.loop (rc .ready none)) := World.alloc_heap_new Wz (.loop (rc .ready none))
  have put_I : ∀ pre (W : World) (o : Obj), I pre W → I pre (W.putObj Wz.heap.size o) := fun pre W o h => hI pre W _ h (Tch.put W _ o (.inl (by omega)))
  have put_X : ∀ (W : World) (o : Obj), Ix W → Ix (W.putObj Wz.heap.size o) := fun W o h => hX W _ h (Tch.put W _ o (.inl (by omega)))
  refine ⟨Wz.heap.size, [], W1, { target := .fn (.func gf) lb, args := pb ++ #[.func (.yield Wz.heap.size) #[] #[]] }, W1, gf, pb ++ #[.func (.yield Wz.heap.size) #[] #[]] ++ lb, W1, ?_, ?_, fun _ _ => trivial, ?_, fun _ => h1, ?_⟩
  · exact run_enterLoop_inner hl₀ fn a.tmps ps assign body
  · simp only [resolve, hg]
    simp [go_sem]
  · simp [invoke, go_sem, eg]
  refine (CallsIn.inRound l₀ (callsIn_wide.2 (hseq Wz.heap.size (Wz.heap.size + 1) (fun pre W => I pre W ∧ W.heap[Wz.heap.size]? = some (.loop (rc .ready none)))
    (fun _ W => Ix W ∧ W.heap[Wz.heap.size]? = some (.loop (rc .done (some .ret))))
    (fun pre W h => hIZ pre W h.1)
    (fun pre W W' h hb' => ⟨hI _ _ _ h.1 (hb'.mono (by omega)), (hb'.block _ (by omega) (by omega)).trans h.2⟩)
    (fun _ W W' h hb' => ⟨hX _ _ h.1 (hb'.mono (by omega)), (hb'.block _ (by omega) (by omega)).trans h.2⟩)
    ?_ W1 (by omega) (by omega) (by omega) (fun j _ hj => Below.block hB1 j (by omega)) ⟨hI _ _ _ h0 (Tch.of_bel hB1 (Nat.le_refl _)), hl1⟩))).mono ?_
  · rintro pre x W ⟨hi, hl⟩ hx
    have hlt : Wz.heap.size < W.heap.size := (Array.getElem?_eq_some_iff.1 hl).1
    refine ⟨fn, _, assign, body, run_yield hl (hps x), roundIn_any (m := m - 1 - 1) (roundIn_of_wpIn trivial (hassign _ x W _ ⟨_, run_beginRound hl rfl, ?_⟩))⟩
    have hl2 : (W.putObj Wz.heap.size (.loop { rc .ready none with state := .busy })).heap[Wz.heap.size]? = some (.loop { rc .ready none with state := .busy }) := World.putObj_heap_same hlt
    have hk2 : Kep b0 b1 (Wz.heap.size + 1) W (W.putObj Wz.heap.size (.loop { rc .ready none with state := .busy })) := Kep.put W _ _ (by omega) (by omega)
    refine wpIn_mono (hbody _ pre x _ (by omega) ⟨_, hl2⟩ (put_I _ _ _ hi) hx) ?_
    rintro e a3 W3 hp
    cases e with
    | normal =>
      obtain ⟨hk, hi3⟩ := hp
      have hl3 := (hk.block _ (Array.getElem?_eq_some_iff.1 hl2).1 (by omega)).trans hl2
      have hlt3 : Wz.heap.size < W3.heap.size := (Array.getElem?_eq_some_iff.1 hl3).1
      exact ⟨_, _, run_endRound none hl3, .inl ⟨rfl, put_I _ _ _ hi3, World.putObj_heap_same hlt3⟩, (hk2.trans (hk.mono (by omega))).trans (Kep.put _ _ _ (by omega) (by omega))⟩
    | ret =>
      obtain ⟨hk, hx3⟩ := hp
      have hl3 := (hk.block _ (Array.getElem?_eq_some_iff.1 hl2).1 (by omega)).trans hl2
      exact ⟨_, _, run_endRound (some .ret) hl3, .inr ⟨rfl, put_X _ _ hx3, World.putObj_heap_same (Array.getElem?_eq_some_iff.1 hl3).1⟩, (hk2.trans (hk.mono (by omega))).trans (Kep.put _ _ _ (by omega) (by omega))⟩
    | exit id => exact hp.elim
    | goto t => exact hp.elim
    | panic ch => exact hp.elim
    | outgrown => exact hp.elim
  · rintro e W2 ⟨⟨v, rfl⟩, (⟨hi, hl⟩ | ⟨pre, hi, hl⟩)⟩
    · exact ⟨none, _, run_endLoop hl (by simp [rc]), hdone _ (put_I _ _ _ hi)⟩
    · exact ⟨some .ret, _, run_endLoop hl (by simp [rc]), hstop _ (put_X _ _ hi)⟩
end
end Go.Proofs.YtdjaacmaljcnhaaDoor.U
