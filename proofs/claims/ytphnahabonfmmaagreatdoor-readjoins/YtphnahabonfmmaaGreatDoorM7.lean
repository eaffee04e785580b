/- What the reader's add does: a mark waits; any other character is put behind what is done, the marks behind it. A region that draws its order, by an invariant: what holds of whatever set of operations is done; each operation once. No program is named here. What the reader's add does with a character that is no mark: it is put behind what is done, the marks behind it. What the reader's add does with a mark: it waits behind the others; where the first one stands is kept. What read's character answers: the character whose number stands first, and how many bytes it has. What the reader's step does where a byte stands that is its character whatever the sets are. What the reader's step does where a set's number stands, or a byte that stands for nothing. What read.Decode answers, of any bytes and any sets. -/
import Derived.Test.YtphnahabonfmmaaGreatDoorM6
import Derived.Test.YtphnahabonfmmaaGreatDoorM5
import Derived.Deep.RegionHeld3
import Derived.WalkKit
import Derived.Orders
import Derived.BigFrame
import Derived.Lib.Hide
namespace Go.Proofs.YtphnahabonfmmaaGreatDoor.D
open Go.RowKit U V
set_option linter.unusedVariables false

def AddP (R F : Nat) (x y : Int) (w : World) (g0 g1 f : Int) (d m : List Int) (e : Ending) (w' : World) : Prop := e = .returned (.tuple #[]) ∧ ∃ vd vm, Rs R w' g0 g1 vd vm f d m ∧ Below R w w' ∧ Two w' F x y ∧ (∀ g, vd.ownBlock = some g → g ≠ F) ∧ ∀ g, vm.ownBlock = some g → g ≠ F
/-- What the region reads of the reader. -/
def Sees (R : Nat) (vd vm : Value) (w : World) : Prop := w.cell? ⟨R, 2, none⟩ = some vd ∧ w.cell? ⟨R, 3, none⟩ = some vm ∧ w.frozen? ⟨R, 2, none⟩ = false
theorem Rs.sees {R : Nat} {w : World} {g0 g1 f : Int} {vd vm : Value} {d m : List Int} (h : Rs R w g0 g1 vd vm f d m) : Sees R vd vm w := ⟨h.c2, h.c3, h.free⟩
theorem sees_block {R : Nat} {w : World} {g0 g1 f : Int} {vd vm : Value} {t : TypeId} (h : w.heap[R]? = some (.cells #[.int .i64 g0, .int .i64 g1, vd, vm, .int .i64 f] t (0, 0))) : Sees R vd vm w :=
  ⟨by simp [World.cell?, h], by simp [World.cell?, h], by simp [World.frozen?, h]⟩
theorem rd_lit_at {w : World} {cs : Array Value} {l : List Int} {k : IntKind} {t : TypeId} (h : cs.toList = l.map (Value.int k)) : Rd (w.alloc (.cells cs t)) (w.heap.size + 1) k (some ⟨w.heap.size, 0, none⟩) l := fun i x hx => by
  refine ⟨w.heap.size, 0, rfl, by omega, ?_⟩
  have e : cs = (l.map (Value.int k)).toArray := by rw [← h]
  have h1 := World.cell?_alloc_mark w cs t (0, 0) i
  rw [Nat.zero_add]
  refine h1.trans ?_
  rw [e]
  simp [hx]

theorem block_far {w w' : World} {R : Nat} {e : TypeId} {k : IntKind} {v : Value} {l : List Int} {o : Obj} (ho : U.Own w (R + 1) e k v l) (hg : w.grownBy w' v.ownBlock) (h : w.heap[R]? = some o) : w'.heap[R]? = some o :=
  (hg.block R (Array.getElem?_eq_some_iff.1 h).1 fun e => by have := (own_block ho e.symm).1; omega).trans h
theorem rd_of_own {w : World} {base n cap : Nat} {e : TypeId} {k : IntKind} {A : Option Addr} {l : List Int} (h : U.Own w base e k (.slice A n cap) l) (hn : l.length = n) : Rd w w.heap.size k A l := by
  obtain ⟨A', cap', he, _, hr, _⟩ := own_rdn h hn
  simp only [Value.slice.injEq] at he
  rw [he.1]
  exact hr

end Go.Proofs.YtphnahabonfmmaaGreatDoor.D
namespace Go.Proofs.YtphnahabonfmmaaGreatDoor.R
open Go
set_option linter.unusedVariables false

/-- What must be done ahead of an operation. -/
def deps (ops : Array Oper) (i : Nat) : List Nat := match ops[i]? with
  | some o => (o.after.toList.filter (Region.binds .any ·)).map (·.on)
  | none => []
/-- Only what stands ahead of it. -/
def ordB (ops : Array Oper) : Bool := (List.range ops.size).all fun i => (deps ops i).all fun j => decide (j < i)
def setL (L : Nat → Bool) (i : Nat) : Nat → Bool := fun j => if j = i then true else L j
theorem setL_self (L : Nat → Bool) (i : Nat) : setL L i i = true := if_pos rfl
theorem setL_other {L : Nat → Bool} {i j : Nat} (h : j ≠ i) : setL L i j = L j := if_neg h
def lis (l : Array Bool) : Nat → Bool := fun j => l.getD j false

theorem lis_set (l : Array Bool) (i : Nat) (h : i < l.size) : lis (l.setIfInBounds i true) = setL (lis l) i := by
  funext j
  unfold lis setL
  by_cases e : j = i
  · subst e
    rw [if_pos rfl, Array.getD_eq_getD_getElem?, Array.getElem?_setIfInBounds_self_of_lt h]
    rfl
  · rw [if_neg e]
    simp only [Array.getD_eq_getD_getElem?]
    rw [Array.getElem?_setIfInBounds_ne (Ne.symm e)]

section
variable {P : Program} {ops : Array Oper} {Q : Exit → Act → World → Prop}

theorem ready_mem {l : Array Bool} {i : Nat} (hl : l.size = ops.size) : i ∈ Region.ready .any ops l ↔ i < ops.size ∧ lis l i = false ∧ ∀ j ∈ deps ops i, lis l j = true := by
  unfold Region.ready
  rw [List.mem_filter, List.mem_range]
  constructor
  · rintro ⟨h1, h2⟩
    rw [Bool.and_eq_true] at h2
    obtain ⟨h2, h3⟩ := h2
    refine ⟨h1, ?_, ?_⟩
    · have : l.getD i true = false := by simpa using h2
      unfold lis
      rw [Array.getD_eq_getD_getElem?] at this ⊢
      rw [Array.getElem?_eq_getElem (by omega)] at this ⊢
      simpa using this
    · intro j hj
      have ho : ops[i]? = some ops[i] := Array.getElem?_eq_getElem h1
      simp only [deps, ho, List.mem_map, List.mem_filter] at hj
      obtain ⟨e, ⟨he, hb⟩, rfl⟩ := hj
      rw [ho] at h3
      simp only [Option.map_some, Option.getD_some, Array.all_eq_true_iff_forall_mem] at h3
      have := h3 e (by simpa using he)
      rw [hb] at this
      simpa [lis] using this
  · rintro ⟨h1, h2, h3⟩
    refine ⟨h1, ?_⟩
    rw [Bool.and_eq_true]
    refine ⟨?_, ?_⟩
    · have : l.getD i true = false := by
        unfold lis at h2
        rw [Array.getD_eq_getD_getElem?] at h2 ⊢
        rw [Array.getElem?_eq_getElem (by omega)] at h2 ⊢
        simpa using h2
      simp [this]
    · have ho : ops[i]? = some ops[i] := Array.getElem?_eq_getElem h1
      rw [ho]
      simp only [Option.map_some, Option.getD_some, Array.all_eq_true_iff_forall_mem]
      intro e he
      by_cases hb : Region.binds .any e = true
      · rw [hb]
        have := h3 e.on (by simp only [deps, ho, List.mem_map, List.mem_filter]; exact ⟨e, ⟨by simpa using he, hb⟩, rfl⟩)
        simpa [lis] using this
      · simp [hb]

theorem all_of_none {l : Array Bool} (hl : l.size = ops.size) (ho : ordB ops = true) (hr : Region.ready .any ops l = []) : ∀ i, i < ops.size → lis l i = true := by
  intro i
  induction i using Nat.strongRecOn with
  | ind i ih =>
    intro hi
    rcases hb : lis l i with _ | _
    · exfalso
      have : i ∈ Region.ready .any ops l := (ready_mem hl).2 ⟨hi, hb, fun j hj => by
        have h1 : decide (j < i) = true := by
          unfold ordB at ho
          rw [List.all_eq_true] at ho
          have := ho i (List.mem_range.2 hi)
          rw [List.all_eq_true] at this
          exact this j hj
        have h2 : j < i := of_decide_eq_true h1
        exact ih j h2 (by omega)⟩
      rw [hr] at this
      cases this
    · rfl

def falses (l : Array Bool) : Nat := (l.toList.filter (· == false)).length
theorem falses_set : ∀ (l : List Bool) (i : Nat), l[i]? = some false → ((l.set i true).filter (· == false)).length + 1 = (l.filter (· == false)).length
  | [], i, h => by simp at h
  | b :: l, 0, h => by
    simp at h
    subst h
    simp
  | b :: l, i + 1, h => by
    have := falses_set l i (by simpa using h)
    rcases b with _ | _ <;> simp at this ⊢ <;> omega

/-- THE RULE. -/
theorem inv_any (ho : ordB ops = true) (J : (Nat → Bool) → Act → World → Prop)
    (hs : ∀ i, i < ops.size → ∀ L a w, J L a w → L i = false → (∀ j ∈ deps ops i, L j = true) → wpOp P ops Q i (fun a' w' => J (setL L i) a' w') a w)
    (he : ∀ L a w, J L a w → (∀ i, i < ops.size → L i = true) → Q .normal a w) :
    ∀ (fuel : Nat) (l : Array Bool), l.size = ops.size → falses l = fuel → ∀ a w, J (lis l) a w → wpAny P .any ops Q fuel l a w := by
  intro fuel
  induction fuel with
  | zero =>
    intro l hl hf a w hj
    have hall : ∀ i, i < ops.size → lis l i = true := by
      intro i hi
      rcases hb : lis l i with _ | _
      · exfalso
        have h1 : l.toList[i]? = some false := by
          unfold lis at hb
          rw [Array.getD_eq_getD_getElem?, Array.getElem?_eq_getElem (by omega)] at hb
          rw [Array.getElem?_toList, Array.getElem?_eq_getElem (by omega)]
          simpa using hb
        have := falses_set l.toList i h1
        unfold falses at hf
        omega
      · rfl
    refine ⟨?_, he _ a w hj hall⟩
    rw [List.eq_nil_iff_forall_not_mem]
    intro i hi
    obtain ⟨h1, h2, _⟩ := (ready_mem hl).1 hi
    rw [hall i h1] at h2
    cases h2
  | succ fuel ih =>
    intro l hl hf a w hj
    refine ⟨fun hr => he _ a w hj (all_of_none hl ho hr), fun i hi => ?_⟩
    obtain ⟨h1, h2, h3⟩ := (ready_mem hl).1 hi
    refine wpOp_mono (fun a' w' h => ?_) (hs i h1 _ a w hj h2 h3)
    refine ih (l.setIfInBounds i true) (by simpa using hl) ?_ a' w' (by rw [lis_set l i (by omega)]; exact h)
    have h4 : l.toList[i]? = some false := by
      unfold lis at h2
      rw [Array.getD_eq_getD_getElem?, Array.getElem?_eq_getElem (by omega)] at h2
      rw [Array.getElem?_toList, Array.getElem?_eq_getElem (by omega)]
      simpa using h2
    have := falses_set l.toList i h4
    unfold falses at hf ⊢
    rw [Array.toList_setIfInBounds]
    omega

theorem region_inv {id : Nat} {a : Act} {w : World} (hm : P.follows .mixedOrders = true) (ho : ordB ops = true) (J : (Nat → Bool) → Act → World → Prop)
    (h0 : J (fun _ => false) a w.drew)
    (hs : ∀ i, i < ops.size → ∀ L a w, J L a w → L i = false → (∀ j ∈ deps ops i, L j = true) → wpOp P ops Q i (fun a' w' => J (setL L i) a' w') a w)
    (he : ∀ L a w, J L a w → (∀ i, i < ops.size → L i = true) → Q .normal a w) : (Code.region id ops true).wp P Q a w := by
  refine wp_region_any hm (inv_any ho J hs he _ _ (by simp) ?_ a _ ?_)
  · unfold falses
    simp
  · have : lis (Array.replicate ops.size false) = fun _ => false := by
      funext j
      unfold lis
      rw [Array.getD_eq_getD_getElem?]
      rcases Nat.lt_or_ge j ops.size with h | h
      · rw [Array.getElem?_replicate, if_pos h]; rfl
      · rw [Array.getElem?_eq_none (by simpa using h)]; rfl
    rw [this]
    exact h0

/-- One operation, as the walk knows a list of one. -/
def KQ (K : Act → World → Prop) (Q : Exit → Act → World → Prop) : Exit → Act → World → Prop := fun x a w => match x with
  | .normal => K a w
  | .exit i => Q (.exit i) a w
  | .goto l => Q (.goto l) a w
  | .ret => Q .ret a w
  | .panic c => Q (.panic c) a w
  | .outgrown => Q .outgrown a w
theorem kq_normal {K : Act → World → Prop} {Q : Exit → Act → World → Prop} {a : Act} {w : World} (h : K a w) : KQ K Q .normal a w := h
theorem upon_kq {ops : Array Oper} {o : Oper} {a : Act} {K : Act → World → Prop} {r : Result Next} (h : o.upon P a (wpList P ops (KQ K Q) []) (KQ K Q) r) : o.upon P a K Q r := by
  cases r with
  | ok n w' =>
    cases n <;> simp only [Oper.upon] at h ⊢ <;> first
      | exact h
      | exact Calls.mono h (fun e w'' he => by cases e <;> exact he)
  | halt x w' => cases x <;> simp only [Oper.upon] at h ⊢ <;> exact h
theorem op_of_list {i : Nat} {o : Oper} {a : Act} {w : World} {K : Act → World → Prop} (ho : ops[i]? = some o) (h : wpList P ops (KQ K Q) [o] a w) : wpOp P ops Q i K a w := by
  unfold wpOp
  rw [ho]
  unfold wpList at h
  simp only []
  split
  · rename_i hw
    rw [if_pos hw] at h
    rcases h with h | h
    · exact .inl (upon_kq (ops := ops) h)
    · exact .inr h
  · rename_i hw
    rw [if_neg hw] at h
    exact h
end
end Go.Proofs.YtphnahabonfmmaaGreatDoor.R
namespace Go.Proofs.YtphnahabonfmmaaGreatDoor.D
open Go.RowKit U V
set_option linter.unusedVariables false

/-- The frame, by what the statement's operations have yielded. -/
def aF (K : Nat) (c p : Int) (V : Nat → Value) : Act := { tmps := #[.pointer (some ⟨K, 0, none⟩), .int .i32 c, .int .i64 p, undef, undef, undef, .int .i32 c, .bool false, .bool true, V 0, V 1, V 2, V 3, V 4, V 5, V 6, V 7, V 8, V 9, V 10, V 11, V 12, V 13, V 14, undef, undef, undef, undef, undef, undef, undef, undef, undef, undef, undef, undef, undef, undef, undef, undef, undef, undef, undef, undef, undef, undef, undef, undef, undef, undef, undef, undef], defers := [] }
def upd (V : Nat → Value) (i : Nat) (v : Value) : Nat → Value := fun j => if j = i then v else V j
theorem upd_self (V : Nat → Value) (i : Nat) (v : Value) : upd V i v i = v := if_pos rfl
theorem upd_other (V : Nat → Value) {i j : Nat} (v : Value) (h : j ≠ i) : upd V i v j = V j := if_neg h
section
variable (K F : Nat) (x y : Int) (W : World) (g0 g1 f c : Int) (vd vm : Value) (d m : List Int)
/-- What each has yielded, but for those that write. -/
def aPhi : Nat → Value → Prop
  | 0, v => v = .pointer (some ⟨K, 0, none⟩)
  | 1, v => v = .pointer (some ⟨K, 0, none⟩)
  | 2, v => v = .pointer (some ⟨K, 0, none⟩)
  | 3, v => v = .pointer (some ⟨K, 2, none⟩)
  | 4, v => v = vd
  | 5, v => v = .int .i32 c
  | 8, v => v = .pointer (some ⟨K, 0, none⟩)
  | 9, v => v = .pointer (some ⟨K, 0, none⟩)
  | 10, v => v = .pointer (some ⟨K, 3, none⟩)
  | 11, v => v = vm
  | 13, v => v = .pointer (some ⟨K, 0, none⟩)
  | 14, v => v = .pointer (some ⟨K, 2, none⟩)
  | _, _ => True
/-- The reader, what its cell of what is done holds, and the row. -/
def RW (u : World) (cv rv : Value) (D : List Int) : Prop := u.heap[K]? = some (.cells #[.int .i64 g0, .int .i64 g1, cv, vm, .int .i64 f] 64 (0, 0)) ∧ U.Own u (K + 1) 21 .i32 rv D ∧ U.Own u (K + 1) 21 .i32 vm m ∧ (∀ g, rv.ownBlock = some g → vm.ownBlock ≠ some g) ∧ Below K W u ∧ Two u F x y ∧ ∀ g, rv.ownBlock = some g → g ≠ F
def aS (b4 b6 b7 b12 b15 : Bool) (v6 v7 v12 : Value) (u : World) : Prop :=
  (b7 = true → b6 = true ∧ b4 = true) ∧ (b12 = true → b7 = true) ∧ (b15 = true → b12 = true) ∧
  RW K F x y W g0 g1 f vm m u (bif b15 then v12 else vd) (bif b12 then v12 else bif b7 then v7 else vd) (bif b12 then d ++ [c] ++ m else bif b7 then d ++ [c] else d) ∧
  (b6 = true → b7 = false → ∃ g, v6 = .slice (some ⟨g, 0, none⟩) 1 1 ∧ Rd u u.heap.size .i32 (some ⟨g, 0, none⟩) [c])
def aJ (L : Nat → Bool) (V : Nat → Value) (u : World) : Prop := (∀ j, L j = true → aPhi K c vd vm j (V j)) ∧ aS K F x y W g0 g1 f c vd vm d m (L 4) (L 6) (L 7) (L 12) (L 15) (V 6) (V 7) (V 12) u
end
section
variable {K F : Nat} {x y : Int} {W : World} {g0 g1 f c : Int} {vd vm : Value} {d m : List Int}
theorem phi_next {L : Nat → Bool} {V : Nat → Value} (i : Nat) (v : Value) (h : ∀ j, L j = true → aPhi K c vd vm j (V j)) (hv : aPhi K c vd vm i v) : ∀ j, R.setL L i j = true → aPhi K c vd vm j (upd V i v j) := fun j hj => by
  by_cases e : j = i
  · subst e
    rw [upd_self]
    exact hv
  · rw [upd_other V v e]
    rw [R.setL_other e] at hj
    exact h j hj
theorem aj_still {L : Nat → Bool} {V : Nat → Value} {u : World} (i : Nat) (v : Value) (h6 : i ≠ 6) (h7 : i ≠ 7) (h12 : i ≠ 12) (h15 : i ≠ 15) (hJ : aJ K F x y W g0 g1 f c vd vm d m L V u) (hv : aPhi K c vd vm i v) : aJ K F x y W g0 g1 f c vd vm d m (R.setL L i) (upd V i v) u := by
  refine ⟨phi_next i v hJ.1 hv, ?_⟩
  rw [R.setL_other (Ne.symm h6), R.setL_other (Ne.symm h7), R.setL_other (Ne.symm h12), R.setL_other (Ne.symm h15), upd_other V v (Ne.symm h6), upd_other V v (Ne.symm h7), upd_other V v (Ne.symm h12)]
  refine ⟨fun h => ⟨(hJ.2.1 h).1, ?_⟩, hJ.2.2⟩
  by_cases e : 4 = i
  · rw [← e]; exact R.setL_self _ _
  · rw [R.setL_other e]; exact (hJ.2.1 h).2
end
theorem not_of {b b' : Bool} (h : b = true → b' = true) (h' : b' = false) : b = false := by
  cases b with
  | false => rfl
  | true => rw [h rfl] at h'; cases h'

set_option maxRecDepth 100000 in
set_option maxHeartbeats 8000000 in
theorem add_char (K nd nm : Nat) (c p : Int) (g0 g1 f : Int) (vd vm : Value) (d m : List Int) (w : World) (hs : Rs K w g0 g1 vd vm f d m) (hSp : C.Sp w) (hnd : d.length = nd) (hnm : m.length = nm) (hn : nd + nm + 1 ≤ 1099511627776) (hc : ¬ 0 < C.cls c)
    (F : Nat) (x y : Int) (hT : Two w F x y) (hFK : F ≠ K) (hFd : ∀ g, vd.ownBlock = some g → g ≠ F) (hFm : ∀ g, vm.ownBlock = some g → g ≠ F) :
    Calls Tryz.prog 46 #[.pointer (some ⟨K, 0, none⟩), .int .i32 c, .int .i64 p] w (AddP K F x y w g0 g1 f (d ++ c :: m) []) := by
  obtain ⟨i0, hi0, hz0, hz1, hz2⟩ := info_parts info32
  obtain ⟨Ad, cd, rfl, _, _, _⟩ := own_rdn hs.2.1 hnd
  obtain ⟨Am, cm, rfl, hcm, hrm, hnil⟩ := own_rdn hs.2.2.1 hnm
  have HM := Lib.hid (C.mark_is c false w hSp (decide_eq_false hc))
  have HS := Lib.hid hs
  have HND := Lib.hid hnd
  have HNM := Lib.hid hnm
  have HNIL := Lib.hid hnil
  have HCM := Lib.hid hcm
  clear hs hSp hnd hnm hc hnil hrm hcm
  go_enter Tryz.func46, Tryz.ntmps46
  go_wp2_with fail
  with_reducible refine HM.out.mono ?_
  rintro e w1 ⟨rfl, hb1⟩
  have hs1 := HS.out.bel hb1
  have HS1 := Lib.hid hs1
  have hT1 := hT.bel hb1
  have HFm := Lib.hid hFm
  have HB1 := Lib.hid (show Below K w w1 from Below.mono hb1 (Nat.le_of_lt HS.out.lt))
  have hn1 : d.length + 1 ≤ 1099511627776 := by have := HND.out; omega
  have hn2 : (d ++ [c]).length + nm ≤ 1099511627776 := by have := HND.out; simp only [List.length_append, List.length_singleton]; omega
  have hKs : K + 1 ≤ w1.heap.size := hs1.lt
  clear hb1 HM
  go_wp2
  refine R.region_inv (by kernel_rfl) (by kernel_rfl) (fun L a u => ∃ V, a = aF K c p V ∧ aJ K F x y w1 g0 g1 f c (.slice Ad nd cd) (.slice Am nm cm) d m L V u) ⟨fun _ => undef, rfl, (fun j h => by cases h), (fun h => by cases h), (fun h => by cases h), (fun h => by cases h), ⟨hs1.1, hs1.2.1.keep (Bel.refl w1).drew, hs1.2.2.1.keep (Bel.refl w1).drew, hs1.2.2.2, (Below.refl _ _).drew, hT1.drew, hFd⟩, (fun h => by cases h)⟩ ?_ ?_
  · intro i hi L a u hJ hL hd
    obtain ⟨V, rfl, hJ⟩ := hJ
    have HJ := Lib.hid hJ
    have hphi := Lib.hid hJ.1
    clear hJ hs1 hT1 hFd hT hFm
    have : i = 0 ∨ i = 1 ∨ i = 2 ∨ i = 3 ∨ i = 4 ∨ i = 5 ∨ i = 6 ∨ i = 7 ∨ i = 8 ∨ i = 9 ∨ i = 10 ∨ i = 11 ∨ i = 12 ∨ i = 13 ∨ i = 14 ∨ i = 15 := by
      have : i < 16 := hi
      omega
    rcases this with rfl | rfl | rfl | rfl | rfl | rfl | rfl | rfl | rfl | rfl | rfl | rfl | rfl | rfl | rfl | rfl
    · clear hd hi
      refine R.op_of_list rfl ?_
      unfold aF
      go_wp2
      exact ⟨upd V 0 (.pointer (some ⟨K, 0, none⟩)), by simp [upd], aj_still 0 _ (by decide) (by decide) (by decide) (by decide) HJ.out rfl⟩
    · clear hd hi
      refine R.op_of_list rfl ?_
      unfold aF
      go_wp2
      exact ⟨upd V 1 (.pointer (some ⟨K, 0, none⟩)), by simp [upd], aj_still 1 _ (by decide) (by decide) (by decide) (by decide) HJ.out rfl⟩
    · have d1 := hd 1 (by decide +kernel)
      clear hd hi
      have v1 : V 1 = .pointer (some ⟨K, 0, none⟩) := hphi.out 1 d1
      refine R.op_of_list rfl ?_
      unfold aF
      go_wp2
      exact ⟨upd V 2 (.pointer (some ⟨K, 0, none⟩)), by simp [upd, v1], aj_still 2 _ (by decide) (by decide) (by decide) (by decide) HJ.out rfl⟩
    · have d2 := hd 2 (by decide +kernel)
      clear hd hi
      have v2 : V 2 = .pointer (some ⟨K, 0, none⟩) := hphi.out 2 d2
      refine R.op_of_list rfl ?_
      unfold aF
      go_wp2
      exact ⟨upd V 3 (.pointer (some ⟨K, 2, none⟩)), by simp [upd, v2], aj_still 3 _ (by decide) (by decide) (by decide) (by decide) HJ.out rfl⟩
    · have d3 := hd 3 (by decide +kernel)
      clear hd hi
      have v3 : V 3 = .pointer (some ⟨K, 2, none⟩) := hphi.out 3 d3
      have c2 : u.cell? ⟨K, 2, none⟩ = some (.slice Ad nd cd) := by
        have hS := HJ.out.2
        have l7 : L 7 = false := not_of (fun h => (hS.1 h).2) hL
        have l12 : L 12 = false := not_of hS.2.1 l7
        have l15 : L 15 = false := not_of hS.2.2.1 l12
        have hb := hS.2.2.2.1.1
        rw [l15] at hb
        simp [World.cell?, hb]
      refine R.op_of_list rfl ?_
      unfold aF
      go_wp2
      exact ⟨upd V 4 (.slice Ad nd cd), by simp [upd, v3], aj_still 4 _ (by decide) (by decide) (by decide) (by decide) HJ.out rfl⟩
    · clear hd hi
      refine R.op_of_list rfl ?_
      unfold aF
      go_wp2
      exact ⟨upd V 5 (.int .i32 c), by simp [upd], aj_still 5 _ (by decide) (by decide) (by decide) (by decide) HJ.out rfl⟩
    · have d5 := hd 5 (by decide +kernel)
      clear hd hi
      have v5 : V 5 = .int .i32 c := hphi.out 5 d5
      have hS := HJ.out.2
      have l7 : L 7 = false := not_of (fun h => (hS.1 h).1) hL
      have l12 : L 12 = false := not_of hS.2.1 l7
      have l15 : L 15 = false := not_of hS.2.2.1 l12
      have HL := Lib.hid (And.intro l7 (And.intro l12 l15))
      clear hS l7 l12 l15
      refine R.op_of_list rfl ?_
      unfold aF
      go_wp2
      refine ⟨upd V 6 (.slice (some ⟨u.heap.size, 0, none⟩) 1 1), by simp [upd, v5], phi_next 6 _ HJ.out.1 trivial, ?_⟩
      rw [R.setL_other (show 4 ≠ 6 by decide), R.setL_self, R.setL_other (show 7 ≠ 6 by decide), R.setL_other (show 12 ≠ 6 by decide), R.setL_other (show 15 ≠ 6 by decide), upd_self, upd_other V _ (show 7 ≠ 6 by decide), upd_other V _ (show 12 ≠ 6 by decide)]
      have hS := HJ.out.2
      obtain ⟨l7, l12, l15⟩ := HL.out
      rw [l7, l12, l15] at hS ⊢
      obtain ⟨_, _, _, ⟨r1, r2, r3, r4, r5, r7, r8⟩, _⟩ := hS
      have hb := (Bel.refl u).alloc (.cells #[.int .i32 c] 21)
      refine ⟨(fun h => by cases h), (fun h => by cases h), (fun h => by cases h), ⟨by rw [hb.block K (Array.getElem?_eq_some_iff.1 r1).1]; exact r1, r2.keep hb, r3.keep hb, r4, r5.trans (Below.mono hb (Nat.le_of_lt (Array.getElem?_eq_some_iff.1 r1).1)), r7.bel hb, r8⟩, fun _ _ => ⟨_, rfl, ?_⟩⟩
      exact (rd_lit_at (l := [c]) rfl).here
    · have d4 := hd 4 (by decide +kernel)
      have d6 := hd 6 (by decide +kernel)
      clear hd hi
      have v4 : V 4 = .slice Ad nd cd := hphi.out 4 d4
      have hS := HJ.out.2
      have l12 : L 12 = false := not_of hS.2.1 hL
      have l15 : L 15 = false := not_of hS.2.2.1 l12
      rw [d4, d6, hL, l12, l15] at hS
      obtain ⟨_, _, _, ⟨r1, r2, r3, r4, r5, r7, r8⟩, r6⟩ := hS
      obtain ⟨g, v6, hrd⟩ := r6 rfl rfl
      have hsz : K + 1 ≤ u.heap.size := (Array.getElem?_eq_some_iff.1 r1).1
      refine R.op_of_list rfl ?_
      unfold aF
      refine wpl_append_g (by rfl) (.tmp 13) (.tmp 15) 22 rfl Tryz.underlying22 hi0 hz0 hz1 hz2 rfl (by omega) r2 v4 hrd v6 rfl (fun e => by cases e) hn1 hsz ?_
      intro v7 u' hown hg hv
      refine ⟨upd V 7 v7, by simp [upd, Act.put], phi_next 7 _ HJ.out.1 trivial, ?_⟩
      rw [R.setL_other (show 4 ≠ 7 by decide), R.setL_other (show 6 ≠ 7 by decide), R.setL_self, R.setL_other (show 12 ≠ 7 by decide), R.setL_other (show 15 ≠ 7 by decide), upd_other V _ (show 6 ≠ 7 by decide), upd_self, upd_other V _ (show 12 ≠ 7 by decide), d4, d6, l12, l15]
      refine ⟨fun _ => ⟨rfl, rfl⟩, (fun h => by cases h), (fun h => by cases h), ⟨block_far r2 hg r1, hown, own_far r3 hg (fun g hm hd => r4 g hd hm), fun g h7 hm => ?_, r5.trans (below_grown hsz r2 hg), r7.far hg (fun e => r8 F e.symm rfl), fun g h7 => ?_⟩, fun _ h => by cases h⟩
      · rcases hv with e | e
        · exact r4 g (e.symm.trans h7) hm
        · change v7.ownBlock = some g at h7
          rw [e] at h7
          have h8 := (own_block r3 hm).2
          have := Option.some.inj h7
          omega
      · rcases hv with e | e
        · exact r8 g (e.symm.trans h7)
        · change v7.ownBlock = some g at h7
          rw [e] at h7
          have h8 : F < u.heap.size := cell_block r7.1
          have := Option.some.inj h7
          omega
    · clear hd hi
      refine R.op_of_list rfl ?_
      unfold aF
      go_wp2
      exact ⟨upd V 8 (.pointer (some ⟨K, 0, none⟩)), by simp [upd], aj_still 8 _ (by decide) (by decide) (by decide) (by decide) HJ.out rfl⟩
    · have d8 := hd 8 (by decide +kernel)
      clear hd hi
      have v8 : V 8 = .pointer (some ⟨K, 0, none⟩) := hphi.out 8 d8
      refine R.op_of_list rfl ?_
      unfold aF
      go_wp2
      exact ⟨upd V 9 (.pointer (some ⟨K, 0, none⟩)), by simp [upd, v8], aj_still 9 _ (by decide) (by decide) (by decide) (by decide) HJ.out rfl⟩
    · have d9 := hd 9 (by decide +kernel)
      clear hd hi
      have v9 : V 9 = .pointer (some ⟨K, 0, none⟩) := hphi.out 9 d9
      refine R.op_of_list rfl ?_
      unfold aF
      go_wp2
      exact ⟨upd V 10 (.pointer (some ⟨K, 3, none⟩)), by simp [upd, v9], aj_still 10 _ (by decide) (by decide) (by decide) (by decide) HJ.out rfl⟩
    · have d10 := hd 10 (by decide +kernel)
      clear hd hi
      have v10 : V 10 = .pointer (some ⟨K, 3, none⟩) := hphi.out 10 d10
      have c3 : u.cell? ⟨K, 3, none⟩ = some (.slice Am nm cm) := by
        have hb := HJ.out.2.2.2.2.1.1
        simp [World.cell?, hb]
      refine R.op_of_list rfl ?_
      unfold aF
      go_wp2
      exact ⟨upd V 11 (.slice Am nm cm), by simp [upd, v10], aj_still 11 _ (by decide) (by decide) (by decide) (by decide) HJ.out rfl⟩
    · have d7 := hd 7 (by decide +kernel)
      have d11 := hd 11 (by decide +kernel)
      clear hd hi
      have v11 : V 11 = .slice Am nm cm := hphi.out 11 d11
      have hS := HJ.out.2
      have l15 : L 15 = false := not_of hS.2.2.1 hL
      have l46 := hS.1 d7
      rw [l46.1, l46.2, d7, hL, l15] at hS
      obtain ⟨_, _, _, ⟨r1, r2, r3, r4, r5, r7, r8⟩, r6⟩ := hS
      have hsz : K + 1 ≤ u.heap.size := (Array.getElem?_eq_some_iff.1 r1).1
      have hrm := rd_of_own r3 HNM.out
      refine R.op_of_list rfl ?_
      unfold aF
      refine wpl_append_g (by rfl) (.tmp 16) (.tmp 20) 22 rfl Tryz.underlying22 hi0 hz0 hz1 hz2 rfl (by omega) r2 rfl hrm v11 HNM.out HNIL.out hn2 hsz ?_
      intro v12 u' hown hg hv
      refine ⟨upd V 12 v12, by simp [upd, Act.put], phi_next 12 _ HJ.out.1 trivial, ?_⟩
      rw [R.setL_other (show 4 ≠ 12 by decide), R.setL_other (show 6 ≠ 12 by decide), R.setL_other (show 7 ≠ 12 by decide), R.setL_self, R.setL_other (show 15 ≠ 12 by decide), upd_other V _ (show 6 ≠ 12 by decide), upd_other V _ (show 7 ≠ 12 by decide), upd_self, l46.1, l46.2, d7, l15]
      refine ⟨fun _ => ⟨rfl, rfl⟩, fun _ => rfl, (fun h => by cases h), ⟨block_far r2 hg r1, hown, own_far r3 hg (fun g hm hd => r4 g hd hm), fun g h7 hm => ?_, r5.trans (below_grown hsz r2 hg), r7.far hg (fun e => r8 F e.symm rfl), fun g h7 => ?_⟩, fun _ h => by cases h⟩
      · rcases hv with e | e
        · exact r4 g (e.symm.trans h7) hm
        · change v12.ownBlock = some g at h7
          rw [e] at h7
          have h8 := (own_block r3 hm).2
          have := Option.some.inj h7
          omega
      · rcases hv with e | e
        · exact r8 g (e.symm.trans h7)
        · change v12.ownBlock = some g at h7
          rw [e] at h7
          have h8 : F < u.heap.size := cell_block r7.1
          have := Option.some.inj h7
          omega
    · have d0 := hd 0 (by decide +kernel)
      clear hd hi
      have v0 : V 0 = .pointer (some ⟨K, 0, none⟩) := hphi.out 0 d0
      refine R.op_of_list rfl ?_
      unfold aF
      go_wp2
      exact ⟨upd V 13 (.pointer (some ⟨K, 0, none⟩)), by simp [upd, v0], aj_still 13 _ (by decide) (by decide) (by decide) (by decide) HJ.out rfl⟩
    · have d13 := hd 13 (by decide +kernel)
      clear hd hi
      have v13 : V 13 = .pointer (some ⟨K, 0, none⟩) := hphi.out 13 d13
      refine R.op_of_list rfl ?_
      unfold aF
      go_wp2
      exact ⟨upd V 14 (.pointer (some ⟨K, 2, none⟩)), by simp [upd, v13], aj_still 14 _ (by decide) (by decide) (by decide) (by decide) HJ.out rfl⟩
    · have d12 := hd 12 (by decide +kernel)
      have d14 := hd 14 (by decide +kernel)
      clear hd hi
      have v14 : V 14 = .pointer (some ⟨K, 2, none⟩) := hphi.out 14 d14
      have hS := HJ.out.2
      have d7 := hS.2.1 d12
      have l46 := hS.1 d7
      rw [l46.1, l46.2, d7, d12, hL] at hS
      obtain ⟨_, _, _, ⟨r1, r2, r3, r4, r5, r7, r8⟩, r6⟩ := hS
      obtain ⟨A4, cap4, e12, -, -, -⟩ := own_rdn r2 (n := nd + 1 + nm) (by rw [cond_true, List.length_append, List.length_append, HND.out, HNM.out]; rfl)
      have v12 : V 12 = .slice A4 (nd + 1 + nm) cap4 := e12
      have c4 : u.cell? ⟨K, 2, none⟩ = some (.slice Ad nd cd) := by simp [World.cell?, r1]
      have f4 : u.frozen? ⟨K, 2, none⟩ = false := by simp [World.frozen?, r1]
      have HRW := Lib.hid (And.intro r1 (And.intro r2 (And.intro r3 (And.intro r4 (And.intro r5 (And.intro r7 r8))))))
      have HL := Lib.hid (And.intro l46 (And.intro d7 d12))
      clear r1 r2 r3 r4 r5 r6 r7 r8 l46 d7 d12 e12
      refine R.op_of_list rfl ?_
      unfold aF
      go_wp2
      obtain ⟨r1, r2, r3, r4, r5, r7, r8⟩ := HRW.out
      obtain ⟨l46, d7, d12⟩ := HL.out
      refine ⟨upd V 15 undef, by simp [upd, v12, v14], phi_next 15 _ HJ.out.1 trivial, ?_⟩
      rw [R.setL_other (show 4 ≠ 15 by decide), R.setL_other (show 6 ≠ 15 by decide), R.setL_other (show 7 ≠ 15 by decide), R.setL_other (show 12 ≠ 15 by decide), R.setL_self, upd_other V _ (show 6 ≠ 15 by decide), upd_other V _ (show 7 ≠ 15 by decide), upd_other V _ (show 12 ≠ 15 by decide), l46.1, l46.2, d7, d12]
      refine ⟨fun _ => ⟨rfl, rfl⟩, fun _ => rfl, fun _ => rfl, ⟨(by have h := heap_set (i := 2) (u := Value.slice A4 (nd + 1 + nm) cap4) r1; rw [cond_true, v12]; exact h), own_store r2 (by omega), own_store r3 (by omega), r4, r5.setCell (by exact Nat.le_refl K) _, r7.other hFK 2 _, r8⟩, fun _ h => by cases h⟩
  · intro L a u hJ hall
    obtain ⟨V, rfl, hJ⟩ := hJ
    have hS := hJ.2
    rw [hall 4 (by decide +kernel), hall 6 (by decide +kernel), hall 7 (by decide +kernel), hall 12 (by decide +kernel), hall 15 (by decide +kernel)] at hS
    obtain ⟨_, _, _, ⟨r1, r2, r3, r4, r5, r7, r8⟩, _⟩ := hS
    have hrs : Rs K u g0 g1 (V 12) (.slice Am nm cm) f (d ++ [c] ++ m) m := ⟨r1, r2, r3, r4⟩
    have c3 := hrs.c3
    have f3 : u.frozen? ⟨K, 3, none⟩ = false := hrs.free
    have HF := Lib.hid (And.intro hrs.set3 (And.intro ((HB1.out.trans r5).setCell (p := ⟨K, 3, none⟩) (Nat.le_refl K) (.slice Am 0 cm)) (And.intro (r7.other hFK 3 (.slice Am 0 cm)) r8)))
    have hcz : (0 : Int) ≤ (cm : Int) := by omega
    clear hJ hall r1 r2 r3 r4 r5 r7 r8 hrs HS1 HS HB1 hT1 hFd hT hFm
    unfold aF
    go_wp2
    go_end0
    have e : d ++ [c] ++ m = d ++ c :: m := by simp
    rw [← e]
    exact ⟨rfl, _, _, HF.out.1, HF.out.2.1, HF.out.2.2.1, HF.out.2.2.2, fun g hg => HFm.out g (cut_block.trans hg)⟩
end Go.Proofs.YtphnahabonfmmaaGreatDoor.D
namespace Go.Proofs.YtphnahabonfmmaaGreatDoor.D
open Go.RowKit U V
set_option linter.unusedVariables false

set_option maxRecDepth 100000 in
set_option maxHeartbeats 4000000 in
theorem add_mark (K nm : Nat) (c p f' : Int) (g0 g1 f : Int) (vd' vm : Value) (d m : List Int) (w : World) (hs : Rs K w g0 g1 vd' vm f d m) (hSp : C.Sp w) (hnm : m.length = nm) (hn : nm + 1 ≤ 1099511627776) (hc : 0 < C.cls c) (hf : f' = if nm = 0 then p else f)
    (F : Nat) (x y : Int) (hT : Two w F x y) (hFK : F ≠ K) (hFd : ∀ g, vd'.ownBlock = some g → g ≠ F) (hFm : ∀ g, vm.ownBlock = some g → g ≠ F) :
    Calls Tryz.prog 46 #[.pointer (some ⟨K, 0, none⟩), .int .i32 c, .int .i64 p] w (AddP K F x y w g0 g1 f' d (m ++ [c])) := by
  obtain ⟨i0, hi0, hz0, hz1, hz2⟩ := info_parts info32
  obtain ⟨Am, cm, rfl, hcm, hrm, hnil⟩ := own_rdn hs.2.2.1 hnm
  have HM := Lib.hid (C.mark_is c true w hSp (decide_eq_true hc))
  have HS := Lib.hid hs
  have HNM := Lib.hid hnm
  have HF := Lib.hid hf
  clear hs hSp hnm hc hnil hrm hcm hf
  go_enter Tryz.func46, Tryz.ntmps46
  go_wp2_with fail
  with_reducible refine HM.out.mono ?_
  rintro e w1 ⟨rfl, hb1⟩
  have HS1 := Lib.hid (HS.out.bel hb1)
  have HT1 := Lib.hid (hT.bel hb1)
  have HFd := Lib.hid hFd
  have HFm := Lib.hid hFm
  clear hT hFd hFm
  have HB1 := Lib.hid (show Below K w w1 from Below.mono hb1 (Nat.le_of_lt HS.out.lt))
  have hn1 : m.length + 1 ≤ 1099511627776 := by have := HNM.out; omega
  clear hb1 HM
  by_cases h0 : nm = 0
  · have hf := HF.out
    rw [if_pos h0] at hf
    subst hf
    have q0 : ((nm : Int) == 0) = true := by simp; omega
    clear h0
    have hs2 : Rs K (w1.setCell ⟨K, 4, none⟩ (.int .i64 f')) g0 g1 vd' (.slice Am nm cm) (f') d m := HS1.out.set4 f'
    have HS2 := Lib.hid hs2
    have hs3 := hs2.bel ((Bel.refl _).alloc (.cells #[.int .i32 c] 21))
    have HS3 := Lib.hid hs3
    have HRc := Lib.hid (show Rd ((w1.setCell ⟨K, 4, none⟩ (.int .i64 f')).alloc (.cells #[.int .i32 c] 21)) (w1.heap.size + 1) .i32 (some ⟨w1.heap.size, 0, none⟩) [c] from (by have h := rd_lit_at (w := w1.setCell ⟨K, 4, none⟩ (.int .i64 f')) (cs := #[.int .i32 c]) (t := 21) (k := .i32) (l := [c]) rfl; simpa using h))
    have HTW := Lib.hid (Two.bel (HT1.out.other hFK 4 (.int .i64 f')) ((Bel.refl _).alloc (.cells #[.int .i32 c] 21)))
    have HBW := Lib.hid (show Below K w ((w1.setCell ⟨K, 4, none⟩ (.int .i64 f')).alloc (.cells #[.int .i32 c] 21)) from (HB1.out.setCell (p := ⟨K, 4, none⟩) (Nat.le_refl K) _).alloc (by have := HS1.out.lt; simp; omega) _)
    have hsz : K + 1 ≤ ((w1.setCell ⟨K, 4, none⟩ (.int .i64 f')).alloc (.cells #[.int .i32 c] 21)).heap.size := hs3.lt
    have c9 : ((w1.setCell ⟨K, 4, none⟩ (.int .i64 f')).alloc (.cells #[.int .i32 c] 21)).cell? ⟨K, 3, none⟩ = some (.slice Am nm cm) := hs3.c3
    have c8 := hs2.c3
    have c7 := HS1.out.c3
    have cc4 := HS1.out.c4
    have ff4 : w1.frozen? ⟨K, 4, none⟩ = false := HS1.out.free
    clear hs2 hs3
    go_wp2_with (first | (at_builtin; refine wpl_append_g (by rfl) (.tmp 46) (.tmp 48) 22 rfl Tryz.underlying22 hi0 hz0 hz1 hz2 rfl (by omega) HS3.out.2.2.1 rfl HRc.out rfl rfl (fun e => by cases e) hn1 hsz ?_; intro v3 w3 hown3 hg3 hv3; obtain ⟨A3, cap3, rfl, -, -, -⟩ := own_rdn (n := nm + 1) hown3 (by rw [List.length_append, HNM.out]; rfl); have hblk := HS3.out.block HS3.out.2.2.1 hg3; have c3 : w3.cell? ⟨K, 3, none⟩ = some (.slice Am nm cm) := (by simp [World.cell?, hblk]); have f3 : w3.frozen? ⟨K, 3, none⟩ = false := (by simp [World.frozen?, hblk])) | fail)
    go_end0
    refine ⟨rfl, _, _, HS3.out.after_marks hg3 hv3 hown3, ?_, ?_, HFd.out, ?_⟩
    · exact (HBW.out.trans (below_grown HS3.out.lt HS3.out.2.2.1 hg3)).setCell (p := ⟨K, 3, none⟩) (Nat.le_refl K) _
    · exact (HTW.out.far hg3 (fun e => HFm.out F e.symm rfl)).other hFK 3 _
    · intro g hg
      rcases hv3 with e | e
      · exact HFm.out g (e.symm.trans hg)
      · rw [e] at hg
        have h8 : F < _ := cell_block HTW.out.1
        have := Option.some.inj hg
        omega
  · have hf := HF.out
    rw [if_neg h0] at hf
    subst hf
    have q0 : ((nm : Int) == 0) = false := by simp; omega
    clear h0
    have hs2 : Rs K (w1) g0 g1 vd' (.slice Am nm cm) (f') d m := HS1.out
    have HS2 := Lib.hid hs2
    have hs3 := hs2.bel ((Bel.refl _).alloc (.cells #[.int .i32 c] 21))
    have HS3 := Lib.hid hs3
    have HRc := Lib.hid (show Rd ((w1).alloc (.cells #[.int .i32 c] 21)) (w1.heap.size + 1) .i32 (some ⟨w1.heap.size, 0, none⟩) [c] from (by have h := rd_lit_at (w := w1) (cs := #[.int .i32 c]) (t := 21) (k := .i32) (l := [c]) rfl; simpa using h))
    have HTW := Lib.hid (Two.bel (HT1.out) ((Bel.refl _).alloc (.cells #[.int .i32 c] 21)))
    have HBW := Lib.hid (show Below K w ((w1).alloc (.cells #[.int .i32 c] 21)) from HB1.out.alloc (by have := HS1.out.lt; omega) _)
    have hsz : K + 1 ≤ ((w1).alloc (.cells #[.int .i32 c] 21)).heap.size := hs3.lt
    have c9 : ((w1).alloc (.cells #[.int .i32 c] 21)).cell? ⟨K, 3, none⟩ = some (.slice Am nm cm) := hs3.c3
    have c8 := hs2.c3
    have c7 := HS1.out.c3
    have cc4 := HS1.out.c4
    have ff4 : w1.frozen? ⟨K, 4, none⟩ = false := HS1.out.free
    clear hs2 hs3
    go_wp2_with (first | (at_builtin; refine wpl_append_g (by rfl) (.tmp 46) (.tmp 48) 22 rfl Tryz.underlying22 hi0 hz0 hz1 hz2 rfl (by omega) HS3.out.2.2.1 rfl HRc.out rfl rfl (fun e => by cases e) hn1 hsz ?_; intro v3 w3 hown3 hg3 hv3; obtain ⟨A3, cap3, rfl, -, -, -⟩ := own_rdn (n := nm + 1) hown3 (by rw [List.length_append, HNM.out]; rfl); have hblk := HS3.out.block HS3.out.2.2.1 hg3; have c3 : w3.cell? ⟨K, 3, none⟩ = some (.slice Am nm cm) := (by simp [World.cell?, hblk]); have f3 : w3.frozen? ⟨K, 3, none⟩ = false := (by simp [World.frozen?, hblk])) | fail)
    go_end0
    refine ⟨rfl, _, _, HS3.out.after_marks hg3 hv3 hown3, ?_, ?_, HFd.out, ?_⟩
    · exact (HBW.out.trans (below_grown HS3.out.lt HS3.out.2.2.1 hg3)).setCell (p := ⟨K, 3, none⟩) (Nat.le_refl K) _
    · exact (HTW.out.far hg3 (fun e => HFm.out F e.symm rfl)).other hFK 3 _
    · intro g hg
      rcases hv3 with e | e
      · exact HFm.out g (e.symm.trans hg)
      · rw [e] at hg
        have h8 : F < _ := cell_block HTW.out.1
        have := Option.some.inj hg
        omega
end Go.Proofs.YtphnahabonfmmaaGreatDoor.D
namespace Go.Proofs.YtphnahabonfmmaaGreatDoor.D
open Go.RowKit U V
set_option linter.unusedVariables false

theorem cast_next (k : Nat) : Value.int .i64 ((k : Int) + 1) = .int .i64 ((k + 1 : Nat) : Int) := congrArg (Value.int .i64) (by omega)
theorem meas_next {b i : Nat} (h : i < b) : b - (intOf (.int .i64 ((i : Int) + 1))).toNat < b - (intOf (.int .i64 (i : Int))).toNat := by
  show b - (i + 1) < b - i
  omega
def ChrP (w : World) (c : Int) (nn : Nat) (e : Ending) (w' : World) : Prop := e = .returned (.tuple #[.int .i32 c, .int .i64 nn]) ∧ Bel w w'
set_option maxRecDepth 100000 in
set_option maxHeartbeats 4000000 in
theorem chr_is (g0 g1 c : Int) (n cap nn : Nat) (A : Option Addr) (l : List Int) (w : World) (hZ : Dz w) (hm : May g0 g1) (hA : Rd w w.heap.size .u8 A l) (hn : l.length = n) (h0 : 0 < n) (hc : n ≤ cap) (hb : ∀ x ∈ l, 0 ≤ x ∧ x < 256)
    (hr : (chr g0 g1 l = some (c, nn) ∧ True) ∨ (chr g0 g1 l = none ∧ c = 0 ∧ nn = 0)) :
    Calls Tryz.prog 45 #[.agg #[.int .i64 g0, .int .i64 g1], .slice A n cap] w (ChrP w c nn) := by
  obtain ⟨b0, hb0⟩ : ∃ b0, l[0]? = some b0 := ⟨l[0]'(by omega), by simp⟩
  obtain ⟨g, off, rfl, hg, hcell⟩ := hA 0 b0 hb0
  have hh : l.headD 0 = b0 := by cases l with | nil => simp at hb0 | cons y t => simpa using hb0
  unfold chr at hr
  rw [hh] at hr
  have hbb := hb b0 (List.mem_of_getElem? hb0)
  have hb1 := (Bel.refl w).alloc (.cells #[.int .i64 g0, .int .i64 g1] 62)
  have k0 : (w.alloc (.cells #[.int .i64 g0, .int .i64 g1] 62)).cell? ⟨w.heap.size, 0, none⟩ = some (.int .i64 g0) := by simp [go_sem]
  have k1 : (w.alloc (.cells #[.int .i64 g0, .int .i64 g1] 62)).cell? ⟨w.heap.size, 1, none⟩ = some (.int .i64 g1) := by simp [go_sem]
  have kb := cell_bel hcell hb1
  rw [Nat.add_zero] at kb
  have i00 : (0 : Int) < (n : Int) := by omega
  have HB0 := Lib.hid hb1
  have HZ := Lib.hid hZ
  have HN := Lib.hid hn
  have HA := Lib.hid hA
  have HBY := Lib.hid hb
  have HX0 := Lib.hid hh
  have HM := Lib.hid hm
  clear hZ hn hA hb hh hcell hb1 hb0 hm
  by_cases hlow : b0 < 128
  · have q0 : decide ((128 : Int) ≤ b0) = false := decide_eq_false (by omega)
    have q0' : ¬ (128 : Int) ≤ b0 := by omega
    have HMS : Hid (1 ≤ g0 ∧ g0 ≤ 12) := Lib.hid HM.out.1
    have es : setOf g0 g1 b0 = g0 := if_pos hlow
    have ed : sideOf b0 = 0 := if_pos hlow
    rw [es, ed] at hr
    obtain ⟨z, hz⟩ : ∃ z, sizeOf_ g0 = z := ⟨_, rfl⟩
    rw [hz] at hr
    have hzr := size_range g0
    rw [hz] at hzr
    have hsz : G.sz g0 = (z : Int) := by rw [sz_is HMS.out, hz]
    have HR := Lib.hid hr
    have HX : ∀ y : Int, 0 ≤ y → y < 256 → bits .xor .u8 y 0 = flip 0 y := fun y h0 h1 => xor0 h0 h1
    have HX := Lib.hid HX
    have HSz : Hid (∀ w' : World, Bel w w' → Calls Tryz.prog 10 #[.int .i64 g0] w' fun e w'' => e = .returned (.int .i64 z) ∧ w'' = w') := Lib.hid fun w' hb' => by
      have := G.size_is g0 w' HMS.out (lt_of (HZ.out.bel hb').2.1)
      rwa [hsz] at this
    clear hr hz hsz es ed
    go_enter Tryz.func45, Tryz.ntmps45
    go_wp2_with fail
    with_reducible refine (HSz.out _ HB0.out).mono ?_
    rintro e w1 ⟨rfl, rfl⟩
    by_cases hzn : n < z
    · have q1 : (n : Int) < (z : Int) := by omega
      have hres : c = 0 ∧ nn = 0 := by
        have := HR.out
        rw [if_pos (by rw [HN.out]; exact hzn)] at this
        rcases this with ⟨h, _⟩ | h
        · cases h
        · exact h.2
      obtain ⟨rfl, rfl⟩ := hres
      go_wp2
      go_ret2
      exact ⟨rfl, HB0.out⟩
    · have q1 : ¬ (n : Int) < (z : Int) := by omega
      have q2 : (0 : Int) ≤ (z : Int) := by omega
      have q3 : (z : Int) ≤ (cap : Int) := by omega
      have hr2 := HR.out
      rw [if_neg (by rw [HN.out]; exact hzn)] at hr2
      have HR2 := Lib.hid hr2
      have HZR := Lib.hid hzr
      have HZN := Lib.hid hzn
      clear hr2 HR hzr hzn HX0
      go_wp2
      go_loopw [9, 34] (fun nv iv wr => ∃ k : Nat, iv = .int .i64 k ∧ nv = .int .i64 (numL 0 (l.take k)) ∧ k ≤ z ∧ wr = w.alloc (.cells #[.int .i64 g0, .int .i64 g1] 62)) (fun _ iv _ => z - (intOf iv).toNat)
      case atStart => exact ⟨0, rfl, rfl, Nat.zero_le _, rfl⟩
      case round =>
        obtain ⟨k, rfl, rfl, hk, rfl⟩ := hrel
        by_cases hkz : k < z
        · obtain ⟨y, hy⟩ : ∃ y, l[k]? = some y := ⟨l[k]'(by rw [HN.out]; have := HZN.out; omega), by simp⟩
          have hcell := cell_bel (HA.out.at hy) HB0.out
          have hyb := HBY.out y (List.mem_of_getElem? hy)
          have hN := num_lt (.inl rfl) k l HBY.out (by rw [HN.out]; have := HZN.out; omega) (by have := HZR.out; omega)
          have hN2 := hN.2.2 (by have := HZR.out; omega)
          have hx := HX.out y hyb.1 hyb.2
          have hfl := flip_range (.inl rfl) hyb.1 hyb.2
          have HNX := Lib.hid (num_next 0 hy)
          obtain ⟨N, eN⟩ : ∃ N, numL 0 (l.take k) = N := ⟨_, rfl⟩
          rw [eN] at hN hN2 HNX ⊢
          obtain ⟨F, eF⟩ : ∃ F, flip 0 y = F := ⟨_, rfl⟩
          rw [eF] at hx hfl HNX
          have p1 : wrap64 (N * 2 ^ 8) = N * 256 := by rw [show (2 : Int) ^ 8 = 256 from rfl]; unfold wrap64; omega
          have p1' : wrap64 (N * 256) = N * 256 := by unfold wrap64; omega
          have p2 : bits .or .i64 (N * 256) F = N * 256 + F := eight_more hN.1 (by omega) hfl.1 hfl.2
          have p3 : wrap64 F = F := by unfold wrap64; omega
          have i2 : (k : Int) < 3 := by have := HZR.out; omega
          have i0 : (0 : Int) ≤ (k : Int) := by omega
          have i1 : (k : Int) < (z : Int) := by omega
          clear hy hyb hN hN2 eN eF hfl hk q1 q2 q3
          go_wp2
          go_roundw
          case rel => exact ⟨k + 1, cast_next k, by rw [HNX.out], hkz, by trivial⟩
          case measure => exact meas_next hkz
        · obtain rfl : k = z := by omega
          have hN := num_lt (.inl rfl) k l HBY.out (by rw [HN.out]; have := HZN.out; omega) (by have := HZR.out; omega)
          obtain ⟨N, eN⟩ : ∃ N, numL 0 (l.take k) = N := ⟨_, rfl⟩
          rw [eN] at hN ⊢
          have hr3 := HR2.out
          rw [eN] at hr3
          obtain ⟨⟨r, ok⟩, hcr⟩ : ∃ p, G.cr g0 N = p := ⟨_, rfl⟩
          rw [hcr] at hr3
          have HC := Lib.hid (G.rune_at g0 N r ok HMS.out (by omega) hcr _ (HZ.out.bel HB0.out).1)
          clear hcr eN HR2 hk hkz q1 q2 q3 hN
          go_wp2_with fail
          with_reducible refine HC.out.mono ?_
          rintro e w2 ⟨rfl, hb2⟩
          have HB2 := Lib.hid (HB0.out.trans hb2)
          clear hb2 HC
          cases ok with
          | true =>
            rcases hr3 with ⟨h, _⟩ | ⟨h, _⟩
            · obtain ⟨rfl, rfl⟩ := Prod.mk.inj (Option.some.inj h)
              go_wp2
              go_ret2
              exact ⟨rfl, HB2.out⟩
            · cases h
          | false =>
            rcases hr3 with ⟨h, _⟩ | ⟨_, rfl, rfl⟩
            · cases h
            · go_wp2
              go_ret2
              exact ⟨rfl, HB2.out⟩
  · have q0 : decide ((128 : Int) ≤ b0) = true := decide_eq_true (by omega)
    have q0' : (128 : Int) ≤ b0 := by omega
    have HMS : Hid (1 ≤ g1 ∧ g1 ≤ 12) := Lib.hid ⟨HM.out.2.1, by have := HM.out.2.2; omega⟩
    have es : setOf g0 g1 b0 = g1 := if_neg hlow
    have ed : sideOf b0 = 128 := if_neg hlow
    rw [es, ed] at hr
    obtain ⟨z, hz⟩ : ∃ z, sizeOf_ g1 = z := ⟨_, rfl⟩
    rw [hz] at hr
    have hzr := size_range g1
    rw [hz] at hzr
    have hsz : G.sz g1 = (z : Int) := by rw [sz_is HMS.out, hz]
    have HR := Lib.hid hr
    have HX : ∀ y : Int, 0 ≤ y → y < 256 → bits .xor .u8 y 128 = flip 128 y := fun y h0 h1 => xor128 h0 h1
    have HX := Lib.hid HX
    have HSz : Hid (∀ w' : World, Bel w w' → Calls Tryz.prog 10 #[.int .i64 g1] w' fun e w'' => e = .returned (.int .i64 z) ∧ w'' = w') := Lib.hid fun w' hb' => by
      have := G.size_is g1 w' HMS.out (lt_of (HZ.out.bel hb').2.1)
      rwa [hsz] at this
    clear hr hz hsz es ed
    go_enter Tryz.func45, Tryz.ntmps45
    go_wp2_with fail
    with_reducible refine (HSz.out _ HB0.out).mono ?_
    rintro e w1 ⟨rfl, rfl⟩
    by_cases hzn : n < z
    · have q1 : (n : Int) < (z : Int) := by omega
      have hres : c = 0 ∧ nn = 0 := by
        have := HR.out
        rw [if_pos (by rw [HN.out]; exact hzn)] at this
        rcases this with ⟨h, _⟩ | h
        · cases h
        · exact h.2
      obtain ⟨rfl, rfl⟩ := hres
      go_wp2
      go_ret2
      exact ⟨rfl, HB0.out⟩
    · have q1 : ¬ (n : Int) < (z : Int) := by omega
      have q2 : (0 : Int) ≤ (z : Int) := by omega
      have q3 : (z : Int) ≤ (cap : Int) := by omega
      have hr2 := HR.out
      rw [if_neg (by rw [HN.out]; exact hzn)] at hr2
      have HR2 := Lib.hid hr2
      have HZR := Lib.hid hzr
      have HZN := Lib.hid hzn
      clear hr2 HR hzr hzn HX0
      go_wp2
      go_loopw [9, 34] (fun nv iv wr => ∃ k : Nat, iv = .int .i64 k ∧ nv = .int .i64 (numL 128 (l.take k)) ∧ k ≤ z ∧ wr = w.alloc (.cells #[.int .i64 g0, .int .i64 g1] 62)) (fun _ iv _ => z - (intOf iv).toNat)
      case atStart => exact ⟨0, rfl, rfl, Nat.zero_le _, rfl⟩
      case round =>
        obtain ⟨k, rfl, rfl, hk, rfl⟩ := hrel
        by_cases hkz : k < z
        · obtain ⟨y, hy⟩ : ∃ y, l[k]? = some y := ⟨l[k]'(by rw [HN.out]; have := HZN.out; omega), by simp⟩
          have hcell := cell_bel (HA.out.at hy) HB0.out
          have hyb := HBY.out y (List.mem_of_getElem? hy)
          have hN := num_lt (.inr rfl) k l HBY.out (by rw [HN.out]; have := HZN.out; omega) (by have := HZR.out; omega)
          have hN2 := hN.2.2 (by have := HZR.out; omega)
          have hx := HX.out y hyb.1 hyb.2
          have hfl := flip_range (.inr rfl) hyb.1 hyb.2
          have HNX := Lib.hid (num_next 128 hy)
          obtain ⟨N, eN⟩ : ∃ N, numL 128 (l.take k) = N := ⟨_, rfl⟩
          rw [eN] at hN hN2 HNX ⊢
          obtain ⟨F, eF⟩ : ∃ F, flip 128 y = F := ⟨_, rfl⟩
          rw [eF] at hx hfl HNX
          have p1 : wrap64 (N * 2 ^ 8) = N * 256 := by rw [show (2 : Int) ^ 8 = 256 from rfl]; unfold wrap64; omega
          have p1' : wrap64 (N * 256) = N * 256 := by unfold wrap64; omega
          have p2 : bits .or .i64 (N * 256) F = N * 256 + F := eight_more hN.1 (by omega) hfl.1 hfl.2
          have p3 : wrap64 F = F := by unfold wrap64; omega
          have i2 : (k : Int) < 3 := by have := HZR.out; omega
          have i0 : (0 : Int) ≤ (k : Int) := by omega
          have i1 : (k : Int) < (z : Int) := by omega
          clear hy hyb hN hN2 eN eF hfl hk q1 q2 q3
          go_wp2
          go_roundw
          case rel => exact ⟨k + 1, cast_next k, by rw [HNX.out], hkz, by trivial⟩
          case measure => exact meas_next hkz
        · obtain rfl : k = z := by omega
          have hN := num_lt (.inr rfl) k l HBY.out (by rw [HN.out]; have := HZN.out; omega) (by have := HZR.out; omega)
          obtain ⟨N, eN⟩ : ∃ N, numL 128 (l.take k) = N := ⟨_, rfl⟩
          rw [eN] at hN ⊢
          have hr3 := HR2.out
          rw [eN] at hr3
          obtain ⟨⟨r, ok⟩, hcr⟩ : ∃ p, G.cr g1 N = p := ⟨_, rfl⟩
          rw [hcr] at hr3
          have HC := Lib.hid (G.rune_at g1 N r ok HMS.out (by omega) hcr _ (HZ.out.bel HB0.out).1)
          clear hcr eN HR2 hk hkz q1 q2 q3 hN
          go_wp2_with fail
          with_reducible refine HC.out.mono ?_
          rintro e w2 ⟨rfl, hb2⟩
          have HB2 := Lib.hid (HB0.out.trans hb2)
          clear hb2 HC
          cases ok with
          | true =>
            rcases hr3 with ⟨h, _⟩ | ⟨h, _⟩
            · obtain ⟨rfl, rfl⟩ := Prod.mk.inj (Option.some.inj h)
              go_wp2
              go_ret2
              exact ⟨rfl, HB2.out⟩
            · cases h
          | false =>
            rcases hr3 with ⟨h, _⟩ | ⟨_, rfl, rfl⟩
            · cases h
            · go_wp2
              go_ret2
              exact ⟨rfl, HB2.out⟩
end Go.Proofs.YtphnahabonfmmaaGreatDoor.D
namespace Go.Proofs.YtphnahabonfmmaaGreatDoor.D
open Go.RowKit U V
set_option linter.unusedVariables false

set_option maxRecDepth 100000 in
set_option maxHeartbeats 4000000 in
theorem step_bare (W w : World) (k n cap : Nat) (b c : Int) (A : Option Addr) (l : List Int) (s : St) (vd vm : Value) (hs : Rs W.heap.size w s.g0 s.g1 vd vm s.first s.done s.marks) (hW : Bel W w) (hA : Rd W W.heap.size .u8 A l)
    (hn : l.length = n) (hk : l[k]? = some b) (hbare : bareL b = some c) (hd : s.done.length + 1 ≤ 1099511627776) (h27 : b ≠ 27) :
    Calls Tryz.prog 24 #[.pointer (some ⟨W.heap.size, 0, none⟩), .slice A n cap, .int .i64 k] w (StepP W.heap.size w (step (l.drop k) k s)) := by
  obtain ⟨i0, hi0, hz0, hz1, hz2⟩ := info_parts info32
  have hkn : k < n := by have := (List.getElem?_eq_some_iff.1 hk).1; omega
  have hst : step (l.drop k) k s = if s.marks = [] then .ok (1, { s with done := s.done ++ [c] }) else .error (6, s.first) := by
    unfold step
    rw [head_drop hk, if_neg h27, hbare]
  obtain ⟨o, ho⟩ : ∃ o, step (l.drop k) k s = o := ⟨_, rfl⟩
  rw [ho]
  rw [hst] at ho
  obtain ⟨g0, g1, d, m, f⟩ := s
  dsimp only at hs ho hd
  have HO := Lib.hid ho
  clear ho
  obtain ⟨nd, hnd⟩ : ∃ nd, d.length = nd := ⟨_, rfl⟩
  obtain ⟨nm, hnm⟩ : ∃ nm, m.length = nm := ⟨_, rfl⟩
  obtain ⟨Ad, cd, rfl, _, _, _⟩ := own_rdn hs.2.1 hnd
  have HND := Lib.hid hnd
  have HNM := Lib.hid hnm
  have hb1 := (Bel.refl w).alloc (.cells #[.int .i64 0, .int .i64 0] 38)
  have hs1 := hs.bel hb1
  obtain ⟨g, off, rfl, hg, hcell⟩ := hA k b hk
  have kb := cell_bel hcell (hW.trans hb1)
  have HT := Lib.hid (Two.new w 38 0 0)
  obtain ⟨R, hR⟩ : ∃ R, W.heap.size = R := ⟨_, rfl⟩
  rw [hR] at hs hs1 ⊢
  have hRF : R ≠ w.heap.size := by have := hs.lt; omega
  have hRlt : R < w.heap.size := hs.lt
  have HSM := Lib.hid hs.small
  have hs3 := hs1.bel ((Bel.refl _).alloc (.cells #[.int .i32 c] 21))
  have c9 := hs3.c2
  have c8 := hs1.c2
  have HS3 := Lib.hid hs3
  have hsz : R + 1 ≤ ((w.alloc (.cells #[.int .i64 0, .int .i64 0] 38)).alloc (.cells #[.int .i32 c] 21)).heap.size := hs3.lt
  have hbs : (w.alloc (.cells #[.int .i64 0, .int .i64 0] 38)).heap.size = w.heap.size + 1 := by simp
  have HRc := Lib.hid (show Rd ((w.alloc (.cells #[.int .i64 0, .int .i64 0] 38)).alloc (.cells #[.int .i32 c] 21)) (w.heap.size + 1 + 1) .i32 (some ⟨w.heap.size + 1, 0, none⟩) [c] from (by have h := rd_lit_at (w := w.alloc (.cells #[.int .i64 0, .int .i64 0] 38)) (cs := #[.int .i32 c]) (t := 21) (k := .i32) (l := [c]) rfl; rwa [hbs] at h))
  have HBW := Lib.hid (show Below R w ((w.alloc (.cells #[.int .i64 0, .int .i64 0] 38)).alloc (.cells #[.int .i32 c] 21)) from Below.mono (hb1.alloc _) (Nat.le_of_lt hs.lt))
  have HT3 := Lib.hid (HT.out.bel ((Bel.refl _).alloc (.cells #[.int .i32 c] 21)))
  have hn1 : d.length + 1 ≤ 1099511627776 := hd
  have q0 : (0 : Int) ≤ (k : Int) := by omega
  have q1 : (k : Int) < (n : Int) := by omega
  have q2 : (b == 27) = false := by simpa using h27
  have HBA := Lib.hid (fun w => bare_is b c true w (.inl ⟨hbare, rfl⟩))
  clear hs hs1 hs3 hcell hb1 hk hst hA hW hn h27 hbare hd hbs hnd hnm HT
  go_enter Tryz.func24, Tryz.ntmps24
  go_wp2_with fail
  with_reducible refine (HBA.out _).mono ?_
  rintro e w1 ⟨rfl, rfl⟩
  go_wp2_with (first | (at_builtin; refine wpl_append_g (by rfl) (.tmp 47) (.tmp 49) 22 rfl Tryz.underlying22 hi0 hz0 hz1 hz2 rfl (by omega) HS3.out.2.1 rfl HRc.out rfl rfl (fun e => by cases e) hn1 hsz ?_; intro v3 w3 hown3 hg3 hv3; obtain ⟨A3, cap3, rfl, -, -, -⟩ := own_rdn (n := nd + 1) hown3 (by rw [List.length_append, HND.out]; rfl); have hblk := HS3.out.block HS3.out.2.1 hg3; have c3 : w3.cell? ⟨R, 2, none⟩ = some (.slice Ad nd cd) := (by simp [World.cell?, hblk]); have f3 : w3.frozen? ⟨R, 2, none⟩ = false := (by simp [World.frozen?, hblk])) | fail)
  have hs4 := HS3.out.after_done hg3 hv3 hown3
  have HA3 : Hid (∀ g, (Value.slice A3 (nd + 1) cap3).ownBlock = some g → g ≠ w.heap.size) := Lib.hid fun g hg => by
    rcases hv3 with e | e
    · exact HSM.out.1 g (e.symm.trans hg)
    · rw [e] at hg
      have := Option.some.inj hg
      simp at this
      omega
  have hT4 := (HT3.out.far hg3 (fun e => HSM.out.1 _ e.symm rfl)).other (Ne.symm hRF) 2 (.slice A3 (nd + 1) cap3)
  have hB4 := (HBW.out.trans (below_grown HS3.out.lt HS3.out.2.1 hg3)).setCell (p := ⟨R, 2, none⟩) (Nat.le_refl R) (.slice A3 (nd + 1) cap3)
  obtain ⟨⟨x, y⟩, hxy⟩ : ∃ q : Int × Int, (nm = 0 ∧ q.1 = 0 ∧ q.2 = 0) ∨ (nm ≠ 0 ∧ q.1 = 6 ∧ q.2 = f) := by
    by_cases h : nm = 0
    · exact ⟨(0, 0), .inl ⟨h, rfl, rfl⟩⟩
    · exact ⟨(6, f), .inr ⟨h, rfl, rfl⟩⟩
  dsimp only at hxy
  have HC := Lib.hid (unmarked_is R nm x y g0 g1 f _ _ _ _ _ hs4 HNM.out hxy)
  have HXY := Lib.hid hxy
  have HS4 := Lib.hid hs4
  have HT4 := Lib.hid hT4
  have HB4 := Lib.hid hB4
  clear hs4 hT4 hB4 hxy hblk c3 f3 hown3 hg3 hv3 HS3 HRc HBW HT3 c8 c9 hsz hn1
  with_reducible refine HC.out.mono ?_
  rintro e w5 ⟨rfl, hb5⟩
  have HS5 := Lib.hid (HS4.out.bel hb5)
  have HT5 := Lib.hid (HT4.out.bel hb5)
  have HB5 := Lib.hid (HB4.out.trans (Below.mono hb5 (Nat.le_of_lt HS4.out.lt)))
  clear HC HS4 HT4 HB4 hb5
  obtain ⟨t0, t1, t2, t3⟩ := HT5.out
  have hRle : R ≤ w.heap.size := Nat.le_of_lt hRlt
  generalize w.heap.size = F at *
  have HTF := Lib.hid (HT5.out.set x y)
  have HBF := Lib.hid ((HB5.out.setCell (p := ⟨F, 0, none⟩) hRle (.int .i64 x)).setCell (p := ⟨F, 1, none⟩) hRle (.int .i64 y))
  have HRS := Lib.hid ((HS5.out.else_ hRF HA3.out HSM.out.2 (i := 0) (u := .int .i64 x)).else_ hRF HA3.out HSM.out.2 (i := 1) (u := .int .i64 y))
  clear HB5 HS5 HT5
  go_wp2
  obtain ⟨t0, t1, _, _⟩ := HTF.out
  clear HTF
  revert HBF
  revert HRS
  revert t0
  revert t1
  generalize ((w5.setCell ⟨F, 0, none⟩ (.int .i64 x)).setCell ⟨F, 1, none⟩ (.int .i64 y)) = X
  intro t1 t0 HRS HBF
  refine bodyPost_ret (v := .tuple #[.int .i64 1, .agg #[.int .i64 x, .int .i64 y]]) (by simp [results, Tryz.results24, go_sem, t0, t1]) rfl ?_
  rw [← HO.out]
  rcases HXY.out with ⟨h0, rfl, rfl⟩ | ⟨h0, rfl, rfl⟩
  · rw [if_pos (List.eq_nil_of_length_eq_zero (HNM.out.trans h0))]
    exact ⟨rfl, _, _, HRS.out, HBF.out⟩
  · rw [if_neg (fun e => h0 (by rw [← HNM.out, e]; rfl))]
    exact ⟨⟨1, rfl⟩, HBF.out⟩
end Go.Proofs.YtphnahabonfmmaaGreatDoor.D
namespace Go.Proofs.YtphnahabonfmmaaGreatDoor.D
open Go.RowKit U V
set_option linter.unusedVariables false

/-- The frame, by what the statement's operations have yielded. -/
def nF (R F g off n cap k : Nat) (b : Int) (V : Nat → Value) : Act := { tmps := #[.pointer (some ⟨R, 0, none⟩), .slice (some ⟨g, off, none⟩) n cap, .int .i64 k, undef, undef, undef, V 12, .pointer (some ⟨F, 0, none⟩), .int .i32 0, .bool false, V 11, .slice (some ⟨g, off, none⟩) n cap, .int .i64 k, .pointer (some ⟨g, off + k, none⟩), .int .u8 b, .bool false, undef, undef, undef, undef, undef, undef, undef, undef, undef, undef, undef, undef, undef, undef, undef, undef, undef, undef, .tuple #[.int .i32 0, .bool false], .slice (some ⟨g, off, none⟩) n cap, .int .i64 k, .pointer (some ⟨g, off + k, none⟩), .int .u8 b, .tuple #[.int .i32 0, .bool false], .int .i32 0, .bool false, .bool false, undef, undef, undef, undef, undef, undef, undef, undef, undef, undef, undef, undef, V 8, V 0, V 1, V 2, V 3, V 4, V 5, V 6, V 7, V 9, V 10, undef, undef, undef, undef, undef, undef, undef, undef, undef, undef], defers := [] }
def nV : Nat → Value := fun j => if j = 12 then .int .i64 0 else undef
/-- What each has yielded. -/
def nPhi (R g off n cap k : Nat) (g0 g1 c : Int) (nn : Nat) : Nat → Value → Prop
  | 0, v => v = .pointer (some ⟨R, 0, none⟩)
  | 1, v => v = .pointer (some ⟨R, 0, none⟩)
  | 2, v => v = .pointer (some ⟨R, 0, none⟩)
  | 3, v => v = .agg #[.int .i64 g0, .int .i64 g1]
  | 4, v => v = .slice (some ⟨g, off, none⟩) n cap
  | 5, v => v = .int .i64 k
  | 6, v => v = .slice (some ⟨g, off + k, none⟩) (n - k) (cap - k)
  | 7, v => v = .tuple #[.int .i32 c, .int .i64 nn]
  | 8, v => v = .tuple #[.int .i32 c, .int .i64 nn]
  | 9, v => v = .int .i32 c
  | 10, v => v = .int .i64 nn
  | 11, v => v = .int .i32 c
  | 12, v => v = .int .i64 nn
  | _, _ => True
def nJ (R g off n cap k : Nat) (g0 g1 c : Int) (nn : Nat) (W : World) (L : Nat → Bool) (V : Nat → Value) (u : World) : Prop := (∀ j, L j = true → nPhi R g off n cap k g0 g1 c nn j (V j)) ∧ Bel W u
theorem nj_step {R g off n cap k : Nat} {g0 g1 c : Int} {nn : Nat} {W u u' : World} {L : Nat → Bool} {V : Nat → Value} (i : Nat) (v : Value) (h : nJ R g off n cap k g0 g1 c nn W L V u) (hb : Bel u u') (hv : nPhi R g off n cap k g0 g1 c nn i v) : nJ R g off n cap k g0 g1 c nn W (Go.Proofs.YtphnahabonfmmaaGreatDoor.R.setL L i) (upd V i v) u' := by
  refine ⟨fun j hj => ?_, h.2.trans hb⟩
  by_cases e : j = i
  · subst e
    rw [upd_self]
    exact hv
  · rw [upd_other V v e]
    rw [Go.Proofs.YtphnahabonfmmaaGreatDoor.R.setL_other e] at hj
    exact h.1 j hj

set_option maxRecDepth 100000 in
set_option maxHeartbeats 4000000 in
theorem step_num (W w : World) (k n cap : Nat) (b : Int) (A : Option Addr) (l : List Int) (s : St) (vd vm : Value) (hs : Rs W.heap.size w s.g0 s.g1 vd vm s.first s.done s.marks) (hW : Bel W w) (hZ : Dz W) (hA : Rd W W.heap.size .u8 A l) (hm : May s.g0 s.g1)
    (hn : l.length = n) (hc : n ≤ cap) (hb : ∀ x ∈ l, 0 ≤ x ∧ x < 256) (hk : l[k]? = some b) (hbare : bareL b = none) (hd : s.done.length + s.marks.length + 1 ≤ 1099511627776) (h27 : b ≠ 27) :
    Calls Tryz.prog 24 #[.pointer (some ⟨W.heap.size, 0, none⟩), .slice A n cap, .int .i64 k] w (StepP W.heap.size w (step (l.drop k) k s)) := by
  have hkn : k < n := by have := (List.getElem?_eq_some_iff.1 hk).1; omega
  have hst : step (l.drop k) k s = match chr s.g0 s.g1 (l.drop k) with
      | none => .error (4, (k : Int))
      | some (c, n) =>
        if 0 < C.cls c then .ok (n, { s with marks := s.marks ++ [c], first := if s.marks = [] then (k : Int) else s.first })
        else .ok (n, { s with done := s.done ++ c :: s.marks, marks := [] }) := by
    unfold step
    rw [head_drop hk, if_neg h27, hbare]
    rcases chr s.g0 s.g1 (l.drop k) with _ | ⟨c, n⟩ <;> rfl
  obtain ⟨o, ho⟩ : ∃ o, step (l.drop k) k s = o := ⟨_, rfl⟩
  rw [ho]
  rw [hst] at ho
  obtain ⟨g0, g1, d, m, f⟩ := s
  dsimp only at hs ho hd hm
  have HO := Lib.hid ho
  clear ho
  have hb1 := (Bel.refl w).alloc (.cells #[.int .i64 0, .int .i64 0] 38)
  have hs1 := hs.bel hb1
  obtain ⟨g, off, rfl, hg, hcell⟩ := hA k b hk
  have kb := cell_bel hcell (hW.trans hb1)
  have HT := Lib.hid (Two.new w 38 0 0)
  have hW1 := hW.trans hb1
  obtain ⟨c, nn, hcn⟩ : ∃ c nn, (chr g0 g1 (l.drop k) = some (c, nn) ∧ True) ∨ (chr g0 g1 (l.drop k) = none ∧ c = 0 ∧ nn = 0) := by
    rcases h : chr g0 g1 (l.drop k) with _ | ⟨c, nn⟩
    · exact ⟨0, 0, .inr ⟨rfl, rfl, rfl⟩⟩
    · exact ⟨c, nn, .inl ⟨rfl, trivial⟩⟩
  have HCN := Lib.hid hcn
  have c0 := hs1.c0
  have c1 := hs1.c1
  have HRlt := Lib.hid hs.lt
  have HSM := Lib.hid hs.small
  have HS1 := Lib.hid hs1
  have HCC : Hid (∀ w' : World, (w'.cell? ⟨W.heap.size, 0, none⟩ = some (.int .i64 g0) ∧ w'.cell? ⟨W.heap.size, 1, none⟩ = some (.int .i64 g1) ∧ Bel (w.alloc (.cells #[.int .i64 0, .int .i64 0] 38)) w') →
      Calls Tryz.prog 45 #[.agg #[.int .i64 g0, .int .i64 g1], .slice (some ⟨g, off + k, none⟩) (n - k) (cap - k)] w' fun e w'' => e = .returned (.tuple #[.int .i32 c, .int .i64 nn]) ∧ (w''.cell? ⟨W.heap.size, 0, none⟩ = some (.int .i64 g0) ∧ w''.cell? ⟨W.heap.size, 1, none⟩ = some (.int .i64 g1) ∧ Bel (w.alloc (.cells #[.int .i64 0, .int .i64 0] 38)) w'')) := Lib.hid fun w' hh => by
    refine (chr_is g0 g1 c (n - k) (cap - k) nn (some ⟨g, off + k, none⟩) (l.drop k) w' (hZ.bel (hW1.trans hh.2.2)) hm ((hA.bel (hW1.trans hh.2.2)).drop).here (by rw [List.length_drop, hn]) (by omega) (by omega) (fun x hx => hb x (List.mem_of_mem_drop hx)) hcn).mono ?_
    rintro e w'' ⟨he, hb''⟩
    exact ⟨he, cell_bel hh.1 hb'', cell_bel hh.2.1 hb'', hh.2.2.trans hb''⟩
  have HZ := Lib.hid (fun w' (h : Bel (w.alloc (.cells #[.int .i64 0, .int .i64 0] 38)) w') => (hZ.bel (hW1.trans h)).2.2)
  have HS0 : Hid ((w.alloc (.cells #[.int .i64 0, .int .i64 0] 38)).drew.cell? ⟨W.heap.size, 0, none⟩ = some (.int .i64 g0) ∧ (w.alloc (.cells #[.int .i64 0, .int .i64 0] 38)).drew.cell? ⟨W.heap.size, 1, none⟩ = some (.int .i64 g1) ∧ Bel (w.alloc (.cells #[.int .i64 0, .int .i64 0] 38)) (w.alloc (.cells #[.int .i64 0, .int .i64 0] 38)).drew) := Lib.hid ⟨c0, c1, (Bel.refl _).drew⟩
  have HBW := Lib.hid (show Below W.heap.size w (w.alloc (.cells #[.int .i64 0, .int .i64 0] 38)) from Below.mono hb1 (Nat.le_of_lt hs.lt))
  have hRF : W.heap.size ≠ w.heap.size := by have := hs.lt; omega
  have q0 : (0 : Int) ≤ (k : Int) := by omega
  have q1 : (k : Int) < (n : Int) := by omega
  have q2 : (b == 27) = false := by simpa using h27
  have q3 : (k : Int) ≤ (n : Int) := by omega
  have q4 : ¬ (cap : Int) = (k : Int) := by omega
  have q5 : (n : Int) ≤ (cap : Int) := by omega
  have HD := Lib.hid hd
  have HBA := Lib.hid (fun w => bare_is b 0 false w (.inr ⟨hbare, rfl, rfl⟩))
  generalize W.heap.size = R at *
  clear hs hs1 hcell hb1 hk hst hA hW hn h27 hbare hd hW1 hcn hb hZ hm hc hg c0 c1
  go_enter Tryz.func24, Tryz.ntmps24
  go_wp2_with fail
  with_reducible refine (HBA.out _).mono ?_
  rintro e w1 ⟨rfl, rfl⟩
  go_wp2
  refine Go.Proofs.YtphnahabonfmmaaGreatDoor.R.region_inv (by kernel_rfl) (by kernel_rfl) (fun L a u => ∃ V, a = nF R w.heap.size g off n cap k b V ∧ nJ R g off n cap k g0 g1 c nn (w.alloc (.cells #[.int .i64 0, .int .i64 0] 38)) L V u) ⟨nV, rfl, (fun j h => by cases h), (Bel.refl _).drew⟩ ?_ ?_
  · intro i hi L a u hJ hL hd
    obtain ⟨V, rfl, hJ⟩ := hJ
    have HJ := Lib.hid hJ
    have hphi := Lib.hid hJ.1
    have c0 := (HS1.out.bel hJ.2).c0
    have c1 := (HS1.out.bel hJ.2).c1
    clear hJ
    have : i = 0 ∨ i = 1 ∨ i = 2 ∨ i = 3 ∨ i = 4 ∨ i = 5 ∨ i = 6 ∨ i = 7 ∨ i = 8 ∨ i = 9 ∨ i = 10 ∨ i = 11 ∨ i = 12 := by
      have : i < 13 := hi
      omega
    rcases this with rfl | rfl | rfl | rfl | rfl | rfl | rfl | rfl | rfl | rfl | rfl | rfl | rfl
    · clear hd hi
      refine Go.Proofs.YtphnahabonfmmaaGreatDoor.R.op_of_list rfl ?_
      unfold nF
      go_wp2
      exact ⟨upd V 0 (.pointer (some ⟨R, 0, none⟩)), by simp [upd], nj_step 0 _ HJ.out (Bel.refl _) rfl⟩
    · have d0 := hd 0 (by decide +kernel)
      clear hd hi
      have v0 : V 0 = .pointer (some ⟨R, 0, none⟩) := hphi.out 0 d0
      refine Go.Proofs.YtphnahabonfmmaaGreatDoor.R.op_of_list rfl ?_
      unfold nF
      go_wp2
      exact ⟨upd V 1 (.pointer (some ⟨R, 0, none⟩)), by simp [upd, v0], nj_step 1 _ HJ.out (Bel.refl _) rfl⟩
    · have d1 := hd 1 (by decide +kernel)
      clear hd hi
      have v1 : V 1 = .pointer (some ⟨R, 0, none⟩) := hphi.out 1 d1
      refine Go.Proofs.YtphnahabonfmmaaGreatDoor.R.op_of_list rfl ?_
      unfold nF
      go_wp2
      exact ⟨upd V 2 (.pointer (some ⟨R, 0, none⟩)), by simp [upd, v1], nj_step 2 _ HJ.out (Bel.refl _) rfl⟩
    · have d2 := hd 2 (by decide +kernel)
      clear hd hi
      have v2 : V 2 = .pointer (some ⟨R, 0, none⟩) := hphi.out 2 d2
      refine Go.Proofs.YtphnahabonfmmaaGreatDoor.R.op_of_list rfl ?_
      unfold nF
      go_wp2
      exact ⟨upd V 3 (.agg #[.int .i64 g0, .int .i64 g1]), by simp [upd, v2], nj_step 3 _ HJ.out (Bel.refl _) rfl⟩
    · clear hd hi
      refine Go.Proofs.YtphnahabonfmmaaGreatDoor.R.op_of_list rfl ?_
      unfold nF
      go_wp2
      exact ⟨upd V 4 (.slice (some ⟨g, off, none⟩) n cap), by simp [upd], nj_step 4 _ HJ.out (Bel.refl _) rfl⟩
    · clear hd hi
      refine Go.Proofs.YtphnahabonfmmaaGreatDoor.R.op_of_list rfl ?_
      unfold nF
      go_wp2
      exact ⟨upd V 5 (.int .i64 k), by simp [upd], nj_step 5 _ HJ.out (Bel.refl _) rfl⟩
    · have d4 := hd 4 (by decide +kernel)
      have d5 := hd 5 (by decide +kernel)
      clear hd hi
      have v4 : V 4 = .slice (some ⟨g, off, none⟩) n cap := hphi.out 4 d4
      have v5 : V 5 = .int .i64 k := hphi.out 5 d5
      refine Go.Proofs.YtphnahabonfmmaaGreatDoor.R.op_of_list rfl ?_
      unfold nF
      go_wp2
      exact ⟨upd V 6 (.slice (some ⟨g, off + k, none⟩) (n - k) (cap - k)), by simp [upd, v4, v5], nj_step 6 _ HJ.out (Bel.refl _) rfl⟩
    · have d3 := hd 3 (by decide +kernel)
      have d6 := hd 6 (by decide +kernel)
      clear hd hi
      have v3 : V 3 = .agg #[.int .i64 g0, .int .i64 g1] := hphi.out 3 d3
      have v6 : V 6 = .slice (some ⟨g, off + k, none⟩) (n - k) (cap - k) := hphi.out 6 d6
      refine Go.Proofs.YtphnahabonfmmaaGreatDoor.R.op_of_list rfl ?_
      unfold nF
      have hcc := HCC.out u ⟨c0, c1, HJ.out.2⟩
      go_wp2_with fail
      with_reducible refine hcc.mono ?_
      rintro e u' ⟨rfl, hs2⟩
      go_wp2
      exact ⟨upd V 7 (.tuple #[.int .i32 c, .int .i64 nn]), by simp [upd, v3, v6], nj_step 7 _ ⟨HJ.out.1, hs2.2.2⟩ (Bel.refl _) rfl⟩
    · have d7 := hd 7 (by decide +kernel)
      clear hd hi
      have v7 : V 7 = .tuple #[.int .i32 c, .int .i64 nn] := hphi.out 7 d7
      refine Go.Proofs.YtphnahabonfmmaaGreatDoor.R.op_of_list rfl ?_
      unfold nF
      go_wp2
      exact ⟨upd V 8 (.tuple #[.int .i32 c, .int .i64 nn]), by simp [upd, v7], nj_step 8 _ HJ.out (Bel.refl _) rfl⟩
    · have d8 := hd 8 (by decide +kernel)
      clear hd hi
      have v8 : V 8 = .tuple #[.int .i32 c, .int .i64 nn] := hphi.out 8 d8
      refine Go.Proofs.YtphnahabonfmmaaGreatDoor.R.op_of_list rfl ?_
      unfold nF
      go_wp2
      exact ⟨upd V 9 (.int .i32 c), by simp [upd, v8], nj_step 9 _ HJ.out (Bel.refl _) rfl⟩
    · have d8 := hd 8 (by decide +kernel)
      clear hd hi
      have v8 : V 8 = .tuple #[.int .i32 c, .int .i64 nn] := hphi.out 8 d8
      refine Go.Proofs.YtphnahabonfmmaaGreatDoor.R.op_of_list rfl ?_
      unfold nF
      go_wp2
      exact ⟨upd V 10 (.int .i64 nn), by simp [upd, v8], nj_step 10 _ HJ.out (Bel.refl _) rfl⟩
    · have d9 := hd 9 (by decide +kernel)
      clear hd hi
      have v9 : V 9 = .int .i32 c := hphi.out 9 d9
      refine Go.Proofs.YtphnahabonfmmaaGreatDoor.R.op_of_list rfl ?_
      unfold nF
      go_wp2
      exact ⟨upd V 11 (.int .i32 c), by simp [upd, v9], nj_step 11 _ HJ.out (Bel.refl _) rfl⟩
    · have d10 := hd 10 (by decide +kernel)
      clear hd hi
      have v10 : V 10 = .int .i64 nn := hphi.out 10 d10
      refine Go.Proofs.YtphnahabonfmmaaGreatDoor.R.op_of_list rfl ?_
      unfold nF
      go_wp2
      exact ⟨upd V 12 (.int .i64 nn), by simp [upd, v10], nj_step 12 _ HJ.out (Bel.refl _) rfl⟩
  intro L a w2 hJ hall
  obtain ⟨V, rfl, hJ⟩ := hJ
  have v0 : V 0 = .pointer (some ⟨R, 0, none⟩) := hJ.1 0 (hall 0 (by decide +kernel))
  have v1 : V 1 = .pointer (some ⟨R, 0, none⟩) := hJ.1 1 (hall 1 (by decide +kernel))
  have v2 : V 2 = .pointer (some ⟨R, 0, none⟩) := hJ.1 2 (hall 2 (by decide +kernel))
  have v3 : V 3 = .agg #[.int .i64 g0, .int .i64 g1] := hJ.1 3 (hall 3 (by decide +kernel))
  have v4 : V 4 = .slice (some ⟨g, off, none⟩) n cap := hJ.1 4 (hall 4 (by decide +kernel))
  have v5 : V 5 = .int .i64 k := hJ.1 5 (hall 5 (by decide +kernel))
  have v6 : V 6 = .slice (some ⟨g, off + k, none⟩) (n - k) (cap - k) := hJ.1 6 (hall 6 (by decide +kernel))
  have v7 : V 7 = .tuple #[.int .i32 c, .int .i64 nn] := hJ.1 7 (hall 7 (by decide +kernel))
  have v8 : V 8 = .tuple #[.int .i32 c, .int .i64 nn] := hJ.1 8 (hall 8 (by decide +kernel))
  have v9 : V 9 = .int .i32 c := hJ.1 9 (hall 9 (by decide +kernel))
  have v10 : V 10 = .int .i64 nn := hJ.1 10 (hall 10 (by decide +kernel))
  have v11 : V 11 = .int .i32 c := hJ.1 11 (hall 11 (by decide +kernel))
  have v12 : V 12 = .int .i64 nn := hJ.1 12 (hall 12 (by decide +kernel))
  have hb2 := hJ.2
  have hF2 : nF R w.heap.size g off n cap k b V = { tmps := #[.pointer (some ⟨R, 0, none⟩), .slice (some ⟨g, off, none⟩) n cap, .int .i64 k, undef, undef, undef, .int .i64 nn, .pointer (some ⟨w.heap.size, 0, none⟩), .int .i32 0, .bool false, .int .i32 c, .slice (some ⟨g, off, none⟩) n cap, .int .i64 k, .pointer (some ⟨g, off + k, none⟩), .int .u8 b, .bool false, undef, undef, undef, undef, undef, undef, undef, undef, undef, undef, undef, undef, undef, undef, undef, undef, undef, undef, .tuple #[.int .i32 0, .bool false], .slice (some ⟨g, off, none⟩) n cap, .int .i64 k, .pointer (some ⟨g, off + k, none⟩), .int .u8 b, .tuple #[.int .i32 0, .bool false], .int .i32 0, .bool false, .bool false, undef, undef, undef, undef, undef, undef, undef, undef, undef, undef, undef, undef, .tuple #[.int .i32 c, .int .i64 nn], .pointer (some ⟨R, 0, none⟩), .pointer (some ⟨R, 0, none⟩), .pointer (some ⟨R, 0, none⟩), .agg #[.int .i64 g0, .int .i64 g1], .slice (some ⟨g, off, none⟩) n cap, .int .i64 k, .slice (some ⟨g, off + k, none⟩) (n - k) (cap - k), .tuple #[.int .i32 c, .int .i64 nn], .int .i32 c, .int .i64 nn, undef, undef, undef, undef, undef, undef, undef, undef, undef, undef], defers := [] } := by
    unfold nF
    rw [v0, v1, v2, v3, v4, v5, v6, v7, v8, v9, v10, v11, v12]
  rw [hF2]
  clear hF2 hJ hall v0 v1 v2 v3 v4 v5 v6 v7 v8 v9 v10 v11 v12
  have HS2 := Lib.hid (HS1.out.bel hb2)
  have HT2 := Lib.hid (HT.out.bel hb2)
  have HSp := Lib.hid (HZ.out _ hb2)
  have HB2 := Lib.hid (HBW.out.trans (Below.mono hb2 (by have := HRlt.out; simp; omega)))
  have hRle : R ≤ w.heap.size := Nat.le_of_lt HRlt.out
  clear hb2 HCC HZ HS0 HBW HS1 HT HBA
  generalize w.heap.size = F at *
  have hFR : F ≠ R := Ne.symm hRF
  rcases HCN.out with ⟨hch, _⟩ | ⟨hch, rfl, rfl⟩
  · have hnn := chr_size hch
    have q6 : ((nn : Int) == 0) = false := by simp; omega
    have HCH := Lib.hid hch
    clear hch hnn HCN
    by_cases hcls : 0 < C.cls c
    · have hadd := add_mark R m.length c k (if m.length = 0 then (k : Int) else f) g0 g1 f vd vm d m w2 HS2.out HSp.out rfl (by have := HD.out; omega) hcls rfl F 0 0 HT2.out hFR HSM.out.1 HSM.out.2
      have HAD := Lib.hid hadd
      have HCL := Lib.hid hcls
      clear hadd hcls HS2 HT2 HSp
      go_wp2_with fail
      with_reducible refine HAD.out.mono ?_
      rintro e w3 ⟨rfl, vd3, vm3, hs3, hb3, hT3, hvd, hvm⟩
      obtain ⟨t0, t1, t2, t3⟩ := hT3
      have HTF := Lib.hid (Two.set ⟨t0, t1, t2, t3⟩ 0 0)
      have HBF := Lib.hid (((HB2.out.trans hb3).setCell (p := ⟨F, 0, none⟩) hRle (.int .i64 0)).setCell (p := ⟨F, 1, none⟩) hRle (.int .i64 0))
      have HRS := Lib.hid ((hs3.else_ hRF hvd hvm (i := 0) (u := .int .i64 0)).else_ hRF hvd hvm (i := 1) (u := .int .i64 0))
      clear hs3 hb3 hvd hvm HAD
      go_wp2
      obtain ⟨t0, t1, _, _⟩ := HTF.out
      clear HTF
      revert HBF
      revert HRS
      revert t0
      revert t1
      generalize ((w3.setCell ⟨F, 0, none⟩ (.int .i64 0)).setCell ⟨F, 1, none⟩ (.int .i64 0)) = X
      intro t1 t0 HRS HBF
      refine bodyPost_ret (v := .tuple #[.int .i64 nn, .agg #[.int .i64 0, .int .i64 0]]) (by simp [results, Tryz.results24, go_sem, t0, t1]) rfl ?_
      rw [← HO.out, HCH.out]
      dsimp only
      rw [if_pos HCL.out]
      have e1 : (if m = [] then (k : Int) else f) = if m.length = 0 then (k : Int) else f := by
        cases m with
        | nil => rfl
        | cons y t => simp
      refine ⟨rfl, vd3, vm3, ?_, HBF.out⟩
      dsimp only
      rw [e1]
      exact HRS.out
    · have hadd := add_char R d.length m.length c k g0 g1 f vd vm d m w2 HS2.out HSp.out rfl rfl (by have := HD.out; omega) hcls F 0 0 HT2.out hFR HSM.out.1 HSM.out.2
      have HAD := Lib.hid hadd
      have HCL := Lib.hid hcls
      clear hadd hcls HS2 HT2 HSp
      go_wp2_with fail
      with_reducible refine HAD.out.mono ?_
      rintro e w3 ⟨rfl, vd3, vm3, hs3, hb3, hT3, hvd, hvm⟩
      obtain ⟨t0, t1, t2, t3⟩ := hT3
      have HTF := Lib.hid (Two.set ⟨t0, t1, t2, t3⟩ 0 0)
      have HBF := Lib.hid (((HB2.out.trans hb3).setCell (p := ⟨F, 0, none⟩) hRle (.int .i64 0)).setCell (p := ⟨F, 1, none⟩) hRle (.int .i64 0))
      have HRS := Lib.hid ((hs3.else_ hRF hvd hvm (i := 0) (u := .int .i64 0)).else_ hRF hvd hvm (i := 1) (u := .int .i64 0))
      clear hs3 hb3 hvd hvm HAD
      go_wp2
      obtain ⟨t0, t1, _, _⟩ := HTF.out
      clear HTF
      revert HBF
      revert HRS
      revert t0
      revert t1
      generalize ((w3.setCell ⟨F, 0, none⟩ (.int .i64 0)).setCell ⟨F, 1, none⟩ (.int .i64 0)) = X
      intro t1 t0 HRS HBF
      refine bodyPost_ret (v := .tuple #[.int .i64 nn, .agg #[.int .i64 0, .int .i64 0]]) (by simp [results, Tryz.results24, go_sem, t0, t1]) rfl ?_
      rw [← HO.out, HCH.out]
      dsimp only
      rw [if_neg (by have := HCL.out; omega)]
      exact ⟨rfl, _, _, HRS.out, HBF.out⟩
  · have HCH := Lib.hid hch
    obtain ⟨t0, t1, t2, t3⟩ := HT2.out
    have HTF := Lib.hid (HT2.out.set 4 k)
    have HBF := Lib.hid ((HB2.out.setCell (p := ⟨F, 0, none⟩) hRle (.int .i64 4)).setCell (p := ⟨F, 1, none⟩) hRle (.int .i64 k))
    clear hch HCN HS2 HSp HT2
    go_wp2
    obtain ⟨t0, t1, _, _⟩ := HTF.out
    clear HTF
    revert HBF
    revert t0
    revert t1
    generalize ((w2.setCell ⟨F, 0, none⟩ (.int .i64 4)).setCell ⟨F, 1, none⟩ (.int .i64 k)) = X
    intro t1 t0 HBF
    refine bodyPost_ret (v := .tuple #[.int .i64 0, .agg #[.int .i64 4, .int .i64 k]]) (by simp [results, Tryz.results24, go_sem, t0, t1]) rfl ?_
    rw [← HO.out, HCH.out]
    exact ⟨⟨0, rfl⟩, HBF.out⟩
end Go.Proofs.YtphnahabonfmmaaGreatDoor.D
namespace Go.Proofs.YtphnahabonfmmaaGreatDoor.D
open Go.RowKit U V
set_option linter.unusedVariables false

theorem step_is (W w : World) (k n cap : Nat) (A : Option Addr) (l : List Int) (s : St) (vd vm : Value) (hs : Rs W.heap.size w s.g0 s.g1 vd vm s.first s.done s.marks) (hW : Bel W w) (hZ : Dz W) (hA : Rd W W.heap.size .u8 A l) (hm : May s.g0 s.g1)
    (hn : l.length = n) (hc : n ≤ cap) (hn' : n ≤ 9223372036854770000) (hb : ∀ x ∈ l, 0 ≤ x ∧ x < 256) (hk : k < n) (hd : s.done.length + s.marks.length + 1 ≤ 1099511627776) :
    Calls Tryz.prog 24 #[.pointer (some ⟨W.heap.size, 0, none⟩), .slice A n cap, .int .i64 k] w (StepP W.heap.size w (step (l.drop k) k s)) := by
  obtain ⟨b, hb0⟩ : ∃ b, l[k]? = some b := ⟨l[k]'(by omega), by simp⟩
  by_cases h27 : b = 27
  · subst h27
    exact step_esc W w k n cap A l s vd vm hs hW hZ hA hn hc hn' hb hb0
  · rcases hbare : bareL b with _ | c
    · exact step_num W w k n cap b A l s vd vm hs hW hZ hA hm hn hc hb hb0 hbare hd h27
    · exact step_bare W w k n cap b c A l s vd vm hs hW hA hn hb0 hbare (by omega) h27
theorem step_err {l : List Int} {p : Int} {s : St} {f : Int × Int} (h : step l p s = .error f) : f.1 = 4 ∨ f.1 = 5 ∨ f.1 = 6 := by
  unfold step at h
  split at h
  · cases he : escL l with
    | none => rw [he] at h; cases h; exact .inr (.inl rfl)
    | some x => rw [he] at h; cases h
  · cases hb : bareL (l.headD 0) with
    | some c =>
      rw [hb] at h
      dsimp only at h
      split at h
      · cases h
      · cases h; exact .inr (.inr rfl)
    | none =>
      rw [hb] at h
      cases hc : chr s.g0 s.g1 l with
      | none => rw [hc] at h; cases h; exact .inl rfl
      | some x =>
        rw [hc] at h
        dsimp only at h
        split at h <;> cases h
theorem step_len {l : List Int} {p : Int} {s s' : St} {n : Nat} (h : step l p s = .ok (n, s')) : s'.done.length + s'.marks.length ≤ s.done.length + s.marks.length + 1 := by
  unfold step at h
  split at h
  · cases he : escL l with
    | none => rw [he] at h; cases h
    | some x =>
      obtain ⟨side, set, m⟩ := x
      rw [he] at h
      simp only [Except.ok.injEq, Prod.mk.injEq] at h
      obtain ⟨_, rfl⟩ := h
      split <;> (dsimp only; omega)
  · cases hb : bareL (l.headD 0) with
    | some c =>
      rw [hb] at h
      dsimp only at h
      split at h
      · simp only [Except.ok.injEq, Prod.mk.injEq] at h
        obtain ⟨_, rfl⟩ := h
        simp only [List.length_append, List.length_singleton]
        omega
      · cases h
    | none =>
      rw [hb] at h
      cases hc : chr s.g0 s.g1 l with
      | none => rw [hc] at h; cases h
      | some x =>
        obtain ⟨c, m⟩ := x
        rw [hc] at h
        dsimp only at h
        split at h
        · simp only [Except.ok.injEq, Prod.mk.injEq] at h
          obtain ⟨_, rfl⟩ := h
          simp only [List.length_append, List.length_singleton]
          omega
        · simp only [Except.ok.injEq, Prod.mk.injEq] at h
          obtain ⟨_, rfl⟩ := h
          simp only [List.length_append, List.length_cons, List.length_nil]
          omega

/-- A fault, or the characters and the sets at the end. -/
def DecP (w : World) (o : Out) (e : Ending) (w' : World) : Prop := match o with
  | .error f => e = .returned (.tuple #[.slice none 0 0, .agg #[.int .i64 0, .int .i64 0], .agg #[.int .i64 f.1, .int .i64 f.2]]) ∧ Bel w w'
  | .ok s => ∃ A cap, e = .returned (.tuple #[.slice A s.done.length cap, .agg #[.int .i64 s.g0, .int .i64 s.g1], .agg #[.int .i64 0, .int .i64 0]]) ∧ s.done.length ≤ cap ∧ Rd w' w'.heap.size .i32 A s.done ∧ (A = none → cap = 0) ∧ (∀ a, A = some a → w.heap.size ≤ a.block ∧ a.block < w'.heap.size) ∧ Bel w w'
def DecIn (W : World) (l : List Int) (n : Nat) (O : Out) (k : Nat) (s : St) (vd vm : Value) (wr : World) : Prop :=
  Rs W.heap.size wr s.g0 s.g1 vd vm s.first s.done s.marks ∧ Bel W wr ∧ May s.g0 s.g1 ∧ (∃ m, n - k ≤ m ∧ run m (l.drop k) k s = O) ∧ s.done.length + s.marks.length ≤ k
def DecRel (W : World) (l : List Int) (n : Nat) (O : Out) (iv : Value) (wr : World) : Prop :=
  ∃ (k : Nat) (s : St) (vd vm : Value), iv = .int .i64 k ∧ k ≤ n ∧ Hid (DecIn W l n O k s vd vm wr)
theorem rs_new (W : World) (g0 g1 : Int) : Rs W.heap.size (W.alloc (.cells #[.int .i64 g0, .int .i64 g1, .slice none 0 0, .slice none 0 0, .int .i64 0] 64)) g0 g1 (.slice none 0 0) (.slice none 0 0) 0 [] [] :=
  ⟨heap_alloc_new W _, U.Own.nil _ _ _ _, U.Own.nil _ _ _ _, fun g h => by cases h⟩

theorem meas_add {b i j : Nat} (h : i < b) (hj : 1 ≤ j) : b - (intOf (.int .i64 ((i : Int) + (j : Int)))).toNat < b - (intOf (.int .i64 (i : Int))).toNat := by
  show b - (i + j) < b - i
  omega
set_option maxRecDepth 100000 in
set_option maxHeartbeats 8000000 in
theorem decode_is (A : Option Addr) (n cap : Nat) (l : List Int) (g0 g1 : Int) (o : Out) (w : World) (hZ : Dz w) (hA : Rd w w.heap.size .u8 A l) (hn : l.length = n) (hc : n ≤ cap) (hn' : n ≤ 1099511627775) (hb : ∀ x ∈ l, 0 ≤ x ∧ x < 256) (ho : dec l g0 g1 = o) :
    Calls Tryz.prog 12 #[.slice A n cap, .agg #[.int .i64 g0, .int .i64 g1]] w (DecP w o) := by
  have t3 := ((Two.new w 35 g0 g1).bel ((Bel.refl _).alloc (.cells #[.int .i64 0, .int .i64 0] 35))).bel ((Bel.refl _).alloc (.cells #[.int .i64 0, .int .i64 0] 38))
  have t5 := (Two.new (w.alloc (.cells #[.int .i64 g0, .int .i64 g1] 35)) 35 0 0).bel ((Bel.refl _).alloc (.cells #[.int .i64 0, .int .i64 0] 38))
  have t6 := Two.new ((w.alloc (.cells #[.int .i64 g0, .int .i64 g1] 35)).alloc (.cells #[.int .i64 0, .int .i64 0] 35)) 38 0 0
  have e5 : (w.alloc (.cells #[.int .i64 g0, .int .i64 g1] 35)).heap.size = w.heap.size + 1 := by simp
  have e6 : ((w.alloc (.cells #[.int .i64 g0, .int .i64 g1] 35)).alloc (.cells #[.int .i64 0, .int .i64 0] 35)).heap.size = w.heap.size + 1 + 1 := by simp
  rw [e5] at t5
  rw [e6] at t6
  have hbw : Bel w (((w.alloc (.cells #[.int .i64 g0, .int .i64 g1] 35)).alloc (.cells #[.int .i64 0, .int .i64 0] 35)).alloc (.cells #[.int .i64 0, .int .i64 0] 38)) := (((Bel.refl w).alloc _).alloc _).alloc _
  have HM := Lib.hid (fun w => may_is g0 g1 _ w rfl)
  have HZ := Lib.hid hZ
  have HA := Lib.hid hA
  have HN := Lib.hid hn
  have HBY := Lib.hid hb
  have HO := Lib.hid ho
  obtain ⟨q0, q1, _, _⟩ := id t3
  have T3 := Lib.hid t3
  have T5 := Lib.hid t5
  have T6 := Lib.hid t6
  have HBW := Lib.hid hbw
  clear hZ hA hn hb ho t3 t5 t6 e5 e6 hbw
  go_enter Tryz.func12, Tryz.ntmps12
  go_wp2_with fail
  generalize (((w.alloc (.cells #[.int .i64 g0, .int .i64 g1] 35)).alloc (.cells #[.int .i64 0, .int .i64 0] 35)).alloc (.cells #[.int .i64 0, .int .i64 0] 38)) = W3 at *
  with_reducible refine (HM.out _).mono ?_
  rintro e w4 ⟨he, hb4⟩
  subst he
  have T3' := T3.out.bel hb4
  have T5' := T5.out.bel hb4
  have T6' := T6.out.bel hb4
  have HB4 := Lib.hid (HBW.out.trans hb4)
  obtain ⟨q0, q1, _, _⟩ := id T3'
  have T5 := Lib.hid T5'
  have T6 := Lib.hid T6'
  clear T3 T3' HBW HM hb4
  have hbs : w.heap.size < w4.heap.size := cell_block q0
  have l5 : w.heap.size + 1 < w4.heap.size := cell_block T5'.1
  have l6 : w.heap.size + 1 + 1 < w4.heap.size := cell_block T6'.1
  clear T5' T6'
  generalize hb3e : w.heap.size = b3 at *
  generalize hb5e : b3 + 1 = b5 at *
  generalize hb6e : b5 + 1 = b6 at *
  have hb35 : w.heap.size ≤ b5 := by omega
  have hb36 : w.heap.size ≤ b6 := by omega
  have n56 : b5 ≠ b6 := by omega
  have n65 : b6 ≠ b5 := by omega
  cases hmay : mayB g0 g1 with
  | false =>
    have TA := Lib.hid (((T5.out.set 0 0).other n56 0 (.int .i64 1)).other n56 1 (.int .i64 0))
    have TB := Lib.hid (((T6.out.other n65 0 (.int .i64 0)).other n65 1 (.int .i64 0)).set 1 0)
    have HBF : Hid (Bel w ((((w4.setCell ⟨b5, 0, none⟩ (.int .i64 0)).setCell ⟨b5, 1, none⟩ (.int .i64 0)).setCell ⟨b6, 0, none⟩ (.int .i64 1)).setCell ⟨b6, 1, none⟩ (.int .i64 0))) := Lib.hid ((((HB4.out.setCell (by exact hb35) _).setCell (by exact hb35) _).setCell (by exact hb36) _).setCell (by exact hb36) _)
    obtain ⟨a0, a1, a2, a3⟩ := T5.out
    obtain ⟨d0, d1, d2, d3⟩ := T6.out
    have ho : dec l g0 g1 = .error (1, 0) := by unfold dec; rw [hmay]; rfl
    have HO2 := Lib.hid (HO.out.symm.trans ho)
    clear HO ho hmay T5 T6 HB4
    go_wp2
    obtain ⟨t0, t1, _, _⟩ := TA.out
    obtain ⟨u0, u1, _, _⟩ := TB.out
    clear TA TB
    revert HBF
    revert t0
    revert t1
    revert u0
    revert u1
    generalize ((((w4.setCell ⟨b5, 0, none⟩ (.int .i64 0)).setCell ⟨b5, 1, none⟩ (.int .i64 0)).setCell ⟨b6, 0, none⟩ (.int .i64 1)).setCell ⟨b6, 1, none⟩ (.int .i64 0)) = X
    intro u1 u0 t1 t0 HBF
    refine bodyPost_ret (v := .tuple #[.slice none 0 0, .agg #[.int .i64 0, .int .i64 0], .agg #[.int .i64 1, .int .i64 0]]) (by simp [results, Tryz.results12, go_sem, t0, t1, u0, u1]) rfl ?_
    rw [HO2.out]
    exact ⟨rfl, HBF.out⟩
  | true =>
    have hmy := may_iff.1 hmay
    obtain ⟨O, hO⟩ : ∃ O, run l.length l 0 ⟨g0, g1, [], [], 0⟩ = O := ⟨_, rfl⟩
    have ho : fin O = o := by rw [← HO.out, ← hO]; unfold dec; rw [if_pos hmay]
    have HF := Lib.hid ho
    have HI0 : Hid (DecIn w4 l n O 0 ⟨g0, g1, [], [], 0⟩ (.slice none 0 0) (.slice none 0 0) (w4.alloc (.cells #[.int .i64 g0, .int .i64 g1, .slice none 0 0, .slice none 0 0, .int .i64 0] 64))) :=
      Lib.hid ⟨rs_new w4 g0 g1, (Bel.refl w4).alloc _, hmy, ⟨l.length, by rw [HN.out]; omega, by simpa using hO⟩, Nat.le_refl 0⟩
    have hbnd : n ≤ 1099511627775 := hn'
    clear HO ho hO hmy hmay hn'
    go_wp2
    go_loopw [8] (fun iv wr => DecRel w4 l n O iv wr) (fun iv _ => n - (intOf iv).toNat)
    case atStart => exact ⟨0, _, _, _, rfl, Nat.zero_le _, HI0⟩
    case round =>
      clear HI0
      obtain ⟨k, s, vd, vm, rfl, hk, HI⟩ := hrel
      by_cases hkn : k < n
      · have hst := step_is w4 wr k n cap A l s vd vm HI.out.1 HI.out.2.1 (HZ.out.bel HB4.out) (HA.out.bel HB4.out).here HI.out.2.2.1 HN.out hc (by omega) HBY.out hkn (by have := HI.out.2.2.2.2; omega)
        obtain ⟨x, hx⟩ : ∃ x, step (l.drop k) k s = x := ⟨_, rfl⟩
        rw [hx] at hst
        have HST := Lib.hid hst
        have HX := Lib.hid hx
        clear hst hx
        have hq : (k : Int) < (n : Int) := by omega
        have hne : l.drop k ≠ [] := by
          intro h
          have := congrArg List.length h
          rw [List.length_drop, HN.out, List.length_nil] at this
          omega
        have HNE := Lib.hid hne
        clear hne
        go_wp2_with fail
        with_reducible refine HST.out.mono ?_
        rintro e w5 hp
        rcases x with ⟨x1, y1⟩ | ⟨n', s'⟩
        · obtain ⟨⟨z, rfl⟩, hb5⟩ := hp
          have hbw : Bel w4 w5 := Below.trans HI.out.2.1 hb5
          have he := step_err HX.out
          dsimp only at he
          have qe : (x1 != 0) = true := by simp; omega
          have hOe : O = .error (x1, y1) := by
            obtain ⟨m, hm1, hm2⟩ := HI.out.2.2.2.1
            obtain ⟨m', rfl⟩ : ∃ m', m = m' + 1 := ⟨m - 1, by omega⟩
            rw [run_bad HNE.out HX.out] at hm2
            exact hm2.symm
          subst hOe
          have T5a := T5.out.bel (hbw.alloc (.cells #[.int .i64 x1, .int .i64 y1] 38))
          have T6a := T6.out.bel (hbw.alloc (.cells #[.int .i64 x1, .int .i64 y1] 38))
          have TNa := Two.new w5 38 x1 y1
          have HBX := Lib.hid ((HB4.out.trans hbw).alloc (.cells #[.int .i64 x1, .int .i64 y1] 38))
          have hw5 : w4.heap.size ≤ w5.heap.size := Below.size hbw
          have T5A := Lib.hid T5a
          have T6A := Lib.hid T6a
          obtain ⟨a0, a1, a2, a3⟩ := T5a
          obtain ⟨d0, d1, d2, d3⟩ := T6a
          obtain ⟨z0, z1, z2, z3⟩ := TNa
          have n57 : b5 ≠ w5.heap.size := by omega
          have n67 : b6 ≠ w5.heap.size := by omega
          have n75 : w5.heap.size ≠ b5 := by omega
          have n76 : w5.heap.size ≠ b6 := by omega
          clear hbw hb5 HST HX HNE HI he T5 T6
          go_wp2_with fail
          generalize w5.alloc (.cells #[.int .i64 x1, .int .i64 y1] 38) = w6 at *
          generalize w5.heap.size = N at *
          have TA := Lib.hid ((((T5A.out.set 0 0).other n56 0 (.int .i64 x1)).other n56 1 (.int .i64 y1)).drew)
          have TB := Lib.hid ((((T6A.out.other n65 0 (.int .i64 0)).other n65 1 (.int .i64 0)).set x1 y1).drew)
          have HBF : Hid (Bel w ((((w6.setCell ⟨b5, 0, none⟩ (.int .i64 0)).setCell ⟨b5, 1, none⟩ (.int .i64 0)).setCell ⟨b6, 0, none⟩ (.int .i64 x1)).setCell ⟨b6, 1, none⟩ (.int .i64 y1)).drew) := Lib.hid (((((HBX.out.setCell (by exact hb35) _).setCell (by exact hb35) _).setCell (by exact hb36) _).setCell (by exact hb36) _).drew)
          clear T5A T6A HBX
          go_region
          go_wp2
          obtain ⟨t0, t1, _, _⟩ := TA.out
          obtain ⟨v0, v1, _, _⟩ := TB.out
          clear TA TB
          revert HBF
          revert t0
          revert t1
          revert v0
          revert v1
          generalize ((((w6.setCell ⟨b5, 0, none⟩ (.int .i64 0)).setCell ⟨b5, 1, none⟩ (.int .i64 0)).setCell ⟨b6, 0, none⟩ (.int .i64 x1)).setCell ⟨b6, 1, none⟩ (.int .i64 y1)).drew = X
          intro v1 v0 t1 t0 HBF
          refine bodyPost_ret (v := .tuple #[.slice none 0 0, .agg #[.int .i64 0, .int .i64 0], .agg #[.int .i64 x1, .int .i64 y1]]) (by simp [results, Tryz.results12, go_sem, t0, t1, v0, v1]) rfl ?_
          rw [← HF.out]
          exact ⟨rfl, HBF.out⟩
        · obtain ⟨rfl, vd', vm', hrs', hb5⟩ := hp
          dsimp only at hrs'
          have hbw : Bel w4 w5 := Below.trans HI.out.2.1 hb5
          have hsz := step_size HNE.out HX.out
          have hlen := step_len HX.out
          rw [List.length_drop, HN.out] at hsz
          have hma := step_may HX.out HI.out.2.2.1
          have HI2 : Hid (DecIn w4 l n O (k + n') s' vd' vm' (w5.alloc (.cells #[.int .i64 0, .int .i64 0] 38))) := by
            refine Lib.hid ⟨hrs'.bel ((Bel.refl w5).alloc _), hbw.alloc _, hma, ?_, by have := HI.out.2.2.2.2; omega⟩
            obtain ⟨m, hm1, hm2⟩ := HI.out.2.2.2.1
            obtain ⟨m', rfl⟩ : ∃ m', m = m' + 1 := ⟨m - 1, by omega⟩
            rw [run_next HNE.out HX.out, List.drop_drop] at hm2
            exact ⟨m', by omega, by rw [Int.natCast_add]; exact hm2⟩
          have i0 : (k : Int) + (n' : Int) ≤ (n : Int) := by omega
          have i1 : (n : Int) ≤ 1099511627775 := by omega
          have hk2 : k + n' ≤ n := by omega
          have hn1 : 1 ≤ n' := hsz.1
          clear hsz hlen hma hbw hb5 HST HX HNE HI hrs' T5 T6
          go_wp2
          go_roundw
          case rel => exact ⟨k + n', s', vd', vm', congrArg (Value.int .i64) (by omega), hk2, HI2⟩
          case measure => exact meas_add hkn hn1
      · obtain rfl : k = n := by omega
        have hd0 : l.drop k = [] := List.drop_eq_nil_of_le (by rw [HN.out]; omega)
        have hOe : O = .ok s := by
          obtain ⟨m, hm1, hm2⟩ := HI.out.2.2.2.1
          rw [hd0, run_nil] at hm2
          exact hm2.symm
        subst hOe
        obtain ⟨x, y, hxy⟩ : ∃ x y : Int, (s.marks.length = 0 ∧ x = 0 ∧ y = 0) ∨ (s.marks.length ≠ 0 ∧ x = 6 ∧ y = s.first) := by
          by_cases h : s.marks.length = 0
          · exact ⟨0, 0, .inl ⟨h, rfl, rfl⟩⟩
          · exact ⟨6, s.first, .inr ⟨h, rfl, rfl⟩⟩
        have HU := Lib.hid (unmarked_is w4.heap.size s.marks.length x y s.g0 s.g1 s.first vd vm s.done s.marks wr HI.out.1 rfl hxy)
        have HXY := Lib.hid hxy
        clear hxy hd0
        go_wp2_with fail
        with_reducible refine HU.out.mono ?_
        rintro e w5 ⟨rfl, hb5⟩
        have hbw : Bel w4 w5 := HI.out.2.1.trans hb5
        have HR5 := Lib.hid ((HI.out.1.bel hb5).bel ((Bel.refl w5).alloc (.cells #[.int .i64 x, .int .i64 y] 38)))
        have T5a := T5.out.bel (hbw.alloc (.cells #[.int .i64 x, .int .i64 y] 38))
        have T6a := T6.out.bel (hbw.alloc (.cells #[.int .i64 x, .int .i64 y] 38))
        have TNa := Two.new w5 38 x y
        have HBX := Lib.hid ((HB4.out.trans hbw).alloc (.cells #[.int .i64 x, .int .i64 y] 38))
        have hw5 : w4.heap.size ≤ w5.heap.size := Below.size hbw
        have T5A := Lib.hid T5a
        have T6A := Lib.hid T6a
        obtain ⟨a0, a1, a2, a3⟩ := T5a
        obtain ⟨d0, d1, d2, d3⟩ := T6a
        obtain ⟨z0, z1, z2, z3⟩ := TNa
        have m56 := Lib.hid n56
        have m65 := Lib.hid n65
        have hb5R : b5 < w4.heap.size + 1 := by omega
        have hb6R : b6 < w4.heap.size + 1 := by omega
        have n57 := eq_false (show ¬ b5 = w5.heap.size by omega)
        have n67 := eq_false (show ¬ b6 = w5.heap.size by omega)
        have n75 := eq_false (show ¬ w5.heap.size = b5 by omega)
        have n76 := eq_false (show ¬ w5.heap.size = b6 by omega)
        have n5R := eq_false (show ¬ b5 = w4.heap.size by omega)
        have n6R := eq_false (show ¬ b6 = w4.heap.size by omega)
        have nR5 := eq_false (show ¬ w4.heap.size = b5 by omega)
        have nR6 := eq_false (show ¬ w4.heap.size = b6 by omega)
        replace n56 := eq_false n56
        replace n65 := eq_false n65
        have HBB := Lib.hid (And.intro hb35 (And.intro hb36 (And.intro hb5R hb6R)))
        have HNN := Lib.hid hbnd
        clear hbw hb5 HU HI T5 T6 hw5 hbs l5 l6 hb35 hb36 hb5R hb6R hbnd hk hkn hc
        rcases HXY.out with ⟨h0, rfl, rfl⟩ | ⟨h0, rfl, hy⟩
        · have H0 := Lib.hid h0
          clear h0
          go_wp2_with fail
          generalize w5.alloc (.cells #[.int .i64 0, .int .i64 0] 38) = w6 at *
          generalize w5.heap.size = N at *
          obtain ⟨Ad, cd, rfl, hcd, _, hnil⟩ := own_rdn (n := s.done.length) HR5.out.2.1 rfl
          have r0 := HR5.out.c0
          have r1 := HR5.out.c1
          have r2 := HR5.out.c2
          obtain ⟨G0, eG0⟩ : ∃ G0, s.g0 = G0 := ⟨_, rfl⟩
          obtain ⟨G1, eG1⟩ : ∃ G1, s.g1 = G1 := ⟨_, rfl⟩
          obtain ⟨ND, eND⟩ : ∃ ND, s.done.length = ND := ⟨_, rfl⟩
          rw [eG0] at r0
          rw [eG1] at r1
          rw [eND] at r2
          have TA := Lib.hid ((((T5A.out.set G0 G1).other m56.out 0 (.int .i64 0)).other m56.out 1 (.int .i64 0)).drew)
          have TB := Lib.hid ((((T6A.out.other m65.out 0 (.int .i64 G0)).other m65.out 1 (.int .i64 G1)).set 0 0).drew)
          have HBF : Hid (Bel w ((((w6.setCell ⟨b5, 0, none⟩ (.int .i64 G0)).setCell ⟨b5, 1, none⟩ (.int .i64 G1)).setCell ⟨b6, 0, none⟩ (.int .i64 0)).setCell ⟨b6, 1, none⟩ (.int .i64 0)).drew) := Lib.hid (((((HBX.out.setCell HBB.out.1 _).setCell HBB.out.1 _).setCell HBB.out.2.1 _).setCell HBB.out.2.1 _).drew)
          have HRO : Hid (U.Own ((((w6.setCell ⟨b5, 0, none⟩ (.int .i64 G0)).setCell ⟨b5, 1, none⟩ (.int .i64 G1)).setCell ⟨b6, 0, none⟩ (.int .i64 0)).setCell ⟨b6, 1, none⟩ (.int .i64 0)).drew (w4.heap.size + 1) 21 .i32 (.slice Ad ND cd) s.done) := Lib.hid (by
            have h := HR5.out.2.1
            rw [eND] at h
            exact (own_store (own_store (own_store (own_store h HBB.out.2.2.1) HBB.out.2.2.1) HBB.out.2.2.2) HBB.out.2.2.2).keep (Bel.refl _).drew)
          have HE := Lib.hid (And.intro eG0 (And.intro eG1 eND))
          have HCD := Lib.hid (And.intro hcd hnil)
          clear T5A T6A HBX HR5 eG0 eG1 eND hcd hnil
          go_wp2_with fail
          go_region
          go_wp2
          obtain ⟨t0, t1, _, _⟩ := TA.out
          obtain ⟨v0, v1, _, _⟩ := TB.out
          clear TA TB
          revert HBF
          revert HRO
          revert t0
          revert t1
          revert v0
          revert v1
          generalize ((((w6.setCell ⟨b5, 0, none⟩ (.int .i64 G0)).setCell ⟨b5, 1, none⟩ (.int .i64 G1)).setCell ⟨b6, 0, none⟩ (.int .i64 0)).setCell ⟨b6, 1, none⟩ (.int .i64 0)).drew = X
          intro v1 v0 t1 t0 HRO HBF
          refine bodyPost_ret (v := .tuple #[.slice Ad ND cd, .agg #[.int .i64 G0, .int .i64 G1], .agg #[.int .i64 0, .int .i64 0]]) (by simp [results, Tryz.results12, go_sem, t0, t1, v0, v1]) rfl ?_
          have hfin : fin (.ok s) = .ok s := if_pos (List.eq_nil_of_length_eq_zero H0.out)
          obtain ⟨e0, e1, e2⟩ := HE.out
          rw [← HF.out, hfin]
          refine ⟨Ad, cd, by rw [e0, e1, e2], HCD.out.1, rd_of_own HRO.out e2, HCD.out.2, fun a ha => ?_, HBF.out⟩
          subst ha
          have h9 := own_block HRO.out (g := a.block) rfl
          have h10 := HBB.out
          exact ⟨by omega, h9.2⟩
        · have H0 := Lib.hid h0
          have HY := Lib.hid hy
          clear h0 hy
          go_wp2_with fail
          generalize w5.alloc (.cells #[.int .i64 6, .int .i64 y] 38) = w6 at *
          generalize w5.heap.size = N at *
          have TA := Lib.hid ((((T5A.out.set 0 0).other m56.out 0 (.int .i64 6)).other m56.out 1 (.int .i64 y)).drew)
          have TB := Lib.hid ((((T6A.out.other m65.out 0 (.int .i64 0)).other m65.out 1 (.int .i64 0)).set 6 y).drew)
          have HBF : Hid (Bel w ((((w6.setCell ⟨b5, 0, none⟩ (.int .i64 0)).setCell ⟨b5, 1, none⟩ (.int .i64 0)).setCell ⟨b6, 0, none⟩ (.int .i64 6)).setCell ⟨b6, 1, none⟩ (.int .i64 y)).drew) := Lib.hid (((((HBX.out.setCell HBB.out.1 _).setCell HBB.out.1 _).setCell HBB.out.2.1 _).setCell HBB.out.2.1 _).drew)
          clear T5A T6A HBX
          go_region
          go_wp2
          obtain ⟨t0, t1, _, _⟩ := TA.out
          obtain ⟨v0, v1, _, _⟩ := TB.out
          clear TA TB
          revert HBF
          revert t0
          revert t1
          revert v0
          revert v1
          generalize ((((w6.setCell ⟨b5, 0, none⟩ (.int .i64 0)).setCell ⟨b5, 1, none⟩ (.int .i64 0)).setCell ⟨b6, 0, none⟩ (.int .i64 6)).setCell ⟨b6, 1, none⟩ (.int .i64 y)).drew = X
          intro v1 v0 t1 t0 HBF
          refine bodyPost_ret (v := .tuple #[.slice none 0 0, .agg #[.int .i64 0, .int .i64 0], .agg #[.int .i64 6, .int .i64 y]]) (by simp [results, Tryz.results12, go_sem, t0, t1, v0, v1]) rfl ?_
          rw [← HF.out]
          have hfin : fin (.ok s) = .error (6, y) := by
            rw [HY.out]
            exact if_neg (fun e => H0.out (by rw [e]; rfl))
          rw [hfin]
          exact ⟨rfl, HBF.out⟩
end Go.Proofs.YtphnahabonfmmaaGreatDoor.D
