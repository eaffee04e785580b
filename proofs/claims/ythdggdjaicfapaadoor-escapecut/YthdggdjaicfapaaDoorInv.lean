/- A region that draws its order, by an invariant: what holds of whatever set of operations is done; each operation once. No program is named here. -/
import Derived.WalkKit
import Derived.Orders
import Derived.BigFrame
import Derived.Lib.Hide
namespace Go.Proofs.YthdggdjaicfapaaDoor.R
open Go
set_option linter.unusedVariables false

/-- What must be done ahead of an operation. -/
def deps (ops : Array Oper) (i : Nat) : List Nat := match ops[i]? with
  | some o => (o.after.toList.filter (Region.binds .any ·)).map (·.on)
  | none => []
/-- Only what stands ahead of it. -/
def ordB (ops : Array Oper) : Bool := (List.range ops.size).all fun i => (deps ops i).all fun j => decide (j < i)
def setL (L : Nat → Bool) (i : Nat) : Nat → Bool := fun j => if j = i then true else L j
theorem setL_self (L : Nat → Bool) (i : Nat) : setL L i i = true := if_pos rfl
theorem setL_other {L : Nat → Bool} {i j : Nat} (h : j ≠ i) : setL L i j = L j := if_neg h
def lis (l : Array Bool) : Nat → Bool := fun j => l.getD j false

theorem lis_set (l : Array Bool) (i : Nat) (h : i < l.size) : lis (l.setIfInBounds i true) = setL (lis l) i := by
  funext j
  unfold lis setL
  by_cases e : j = i
  · subst e
    rw [if_pos rfl, Array.getD_eq_getD_getElem?, Array.getElem?_setIfInBounds_self_of_lt h]
    rfl
  · rw [if_neg e]
    simp only [Array.getD_eq_getD_getElem?]
    rw [Array.getElem?_setIfInBounds_ne (Ne.symm e)]

section
variable {P : Program} {ops : Array Oper} {Q : Exit → Act → World → Prop}

theorem ready_mem {l : Array Bool} {i : Nat} (hl : l.size = ops.size) : i ∈ Region.ready .any ops l ↔ i < ops.size ∧ lis l i = false ∧ ∀ j ∈ deps ops i, lis l j = true := by
  unfold Region.ready
  rw [List.mem_filter, List.mem_range]
  constructor
  · rintro ⟨h1, h2⟩
    rw [Bool.and_eq_true] at h2
    obtain ⟨h2, h3⟩ := h2
    refine ⟨h1, ?_, ?_⟩
    · have : l.getD i true = false := by simpa using h2
      unfold lis
      rw [Array.getD_eq_getD_getElem?] at this ⊢
      rw [Array.getElem?_eq_getElem (by omega)] at this ⊢
      simpa using this
    · intro j hj
      have ho : ops[i]? = some ops[i] := Array.getElem?_eq_getElem h1
      simp only [deps, ho, List.mem_map, List.mem_filter] at hj
      obtain ⟨e, ⟨he, hb⟩, rfl⟩ := hj
      rw [ho] at h3
      simp only [Option.map_some, Option.getD_some, Array.all_eq_true_iff_forall_mem] at h3
      have := h3 e (by simpa using he)
      rw [hb] at this
      simpa [lis] using this
  · rintro ⟨h1, h2, h3⟩
    refine ⟨h1, ?_⟩
    rw [Bool.and_eq_true]
    refine ⟨?_, ?_⟩
    · have : l.getD i true = false := by
        unfold lis at h2
        rw [Array.getD_eq_getD_getElem?] at h2 ⊢
        rw [Array.getElem?_eq_getElem (by omega)] at h2 ⊢
        simpa using h2
      simp [this]
    · have ho : ops[i]? = some ops[i] := Array.getElem?_eq_getElem h1
      rw [ho]
      simp only [Option.map_some, Option.getD_some, Array.all_eq_true_iff_forall_mem]
      intro e he
      by_cases hb : Region.binds .any e = true
      · rw [hb]
        have := h3 e.on (by simp only [deps, ho, List.mem_map, List.mem_filter]; exact ⟨e, ⟨by simpa using he, hb⟩, rfl⟩)
        simpa [lis] using this
      · simp [hb]

theorem all_of_none {l : Array Bool} (hl : l.size = ops.size) (ho : ordB ops = true) (hr : Region.ready .any ops l = []) : ∀ i, i < ops.size → lis l i = true := by
  intro i
  induction i using Nat.strongRecOn with
  | ind i ih =>
    intro hi
    rcases hb : lis l i with _ | _
    · exfalso
      have : i ∈ Region.ready .any ops l := (ready_mem hl).2 ⟨hi, hb, fun j hj => by
        have h1 : decide (j < i) = true := by
          unfold ordB at ho
          rw [List.all_eq_true] at ho
          have := ho i (List.mem_range.2 hi)
          rw [List.all_eq_true] at this
          exact this j hj
        have h2 : j < i := of_decide_eq_true h1
        exact ih j h2 (by omega)⟩
      rw [hr] at this
      cases this
    · rfl

def falses (l : Array Bool) : Nat := (l.toList.filter (· == false)).length
theorem falses_set : ∀ (l : List Bool) (i : Nat), l[i]? = some false → ((l.set i true).filter (· == false)).length + 1 = (l.filter (· == false)).length
  | [], i, h => by simp at h
  | b :: l, 0, h => by
    simp at h
    subst h
    simp
  | b :: l, i + 1, h => by
    have := falses_set l i (by simpa using h)
    rcases b with _ | _ <;> simp at this ⊢ <;> omega

/-- THE RULE. -/
theorem inv_any (ho : ordB ops = true) (J : (Nat → Bool) → Act → World → Prop)
    (hs : ∀ i, i < ops.size → ∀ L a w, J L a w → L i = false → (∀ j ∈ deps ops i, L j = true) → wpOp P ops Q i (fun a' w' => J (setL L i) a' w') a w)
    (he : ∀ L a w, J L a w → (∀ i, i < ops.size → L i = true) → Q .normal a w) :
    ∀ (fuel : Nat) (l : Array Bool), l.size = ops.size → falses l = fuel → ∀ a w, J (lis l) a w → wpAny P .any ops Q fuel l a w := by
  intro fuel
  induction fuel with
  | zero =>
    intro l hl hf a w hj
    have hall : ∀ i, i < ops.size → lis l i = true := by
      intro i hi
      rcases hb : lis l i with _ | _
      · exfalso
        have h1 : l.toList[i]? = some false := by
          unfold lis at hb
          rw [Array.getD_eq_getD_getElem?, Array.getElem?_eq_getElem (by omega)] at hb
          rw [Array.getElem?_toList, Array.getElem?_eq_getElem (by omega)]
          simpa using hb
        have := falses_set l.toList i h1
        unfold falses at hf
        omega
      · rfl
    refine ⟨?_, he _ a w hj hall⟩
    rw [List.eq_nil_iff_forall_not_mem]
    intro i hi
    obtain ⟨h1, h2, _⟩ := (ready_mem hl).1 hi
    rw [hall i h1] at h2
    cases h2
  | succ fuel ih =>
    intro l hl hf a w hj
    refine ⟨fun hr => he _ a w hj (all_of_none hl ho hr), fun i hi => ?_⟩
    obtain ⟨h1, h2, h3⟩ := (ready_mem hl).1 hi
    refine wpOp_mono (fun a' w' h => ?_) (hs i h1 _ a w hj h2 h3)
    refine ih (l.setIfInBounds i true) (by simpa using hl) ?_ a' w' (by rw [lis_set l i (by omega)]; exact h)
    have h4 : l.toList[i]? = some false := by
      unfold lis at h2
      rw [Array.getD_eq_getD_getElem?, Array.getElem?_eq_getElem (by omega)] at h2
      rw [Array.getElem?_toList, Array.getElem?_eq_getElem (by omega)]
      simpa using h2
    have := falses_set l.toList i h4
    unfold falses at hf ⊢
    rw [Array.toList_setIfInBounds]
    omega

theorem region_inv {id : Nat} {a : Act} {w : World} (hm : P.follows .mixedOrders = true) (ho : ordB ops = true) (J : (Nat → Bool) → Act → World → Prop)
    (h0 : J (fun _ => false) a w.drew)
    (hs : ∀ i, i < ops.size → ∀ L a w, J L a w → L i = false → (∀ j ∈ deps ops i, L j = true) → wpOp P ops Q i (fun a' w' => J (setL L i) a' w') a w)
    (he : ∀ L a w, J L a w → (∀ i, i < ops.size → L i = true) → Q .normal a w) : (Code.region id ops true).wp P Q a w := by
  refine wp_region_any hm (inv_any ho J hs he _ _ (by simp) ?_ a _ ?_)
  · unfold falses
    simp
  · have : lis (Array.replicate ops.size false) = fun _ => false := by
      funext j
      unfold lis
      rw [Array.getD_eq_getD_getElem?]
      rcases Nat.lt_or_ge j ops.size with h | h
      · rw [Array.getElem?_replicate, if_pos h]; rfl
      · rw [Array.getElem?_eq_none (by simpa using h)]; rfl
    rw [this]
    exact h0

/-- One operation, as the walk knows a list of one. -/
def KQ (K : Act → World → Prop) (Q : Exit → Act → World → Prop) : Exit → Act → World → Prop := fun x a w => match x with
  | .normal => K a w
  | .exit i => Q (.exit i) a w
  | .goto l => Q (.goto l) a w
  | .ret => Q .ret a w
  | .panic c => Q (.panic c) a w
  | .outgrown => Q .outgrown a w
theorem kq_normal {K : Act → World → Prop} {Q : Exit → Act → World → Prop} {a : Act} {w : World} (h : K a w) : KQ K Q .normal a w := h
theorem upon_kq {ops : Array Oper} {o : Oper} {a : Act} {K : Act → World → Prop} {r : Result Next} (h : o.upon P a (wpList P ops (KQ K Q) []) (KQ K Q) r) : o.upon P a K Q r := by
  cases r with
  | ok n w' =>
    cases n <;> simp only [Oper.upon] at h ⊢ <;> first
      | exact h
      | exact Calls.mono h (fun e w'' he => by cases e <;> exact he)
  | halt x w' => cases x <;> simp only [Oper.upon] at h ⊢ <;> exact h
theorem op_of_list {i : Nat} {o : Oper} {a : Act} {w : World} {K : Act → World → Prop} (ho : ops[i]? = some o) (h : wpList P ops (KQ K Q) [o] a w) : wpOp P ops Q i K a w := by
  unfold wpOp
  rw [ho]
  unfold wpList at h
  simp only []
  split
  · rename_i hw
    rw [if_pos hw] at h
    rcases h with h | h
    · exact .inl (upon_kq (ops := ops) h)
    · exact .inr h
  · rename_i hw
    rw [if_neg hw] at h
    exact h
end
end Go.Proofs.YthdggdjaicfapaaDoor.R
