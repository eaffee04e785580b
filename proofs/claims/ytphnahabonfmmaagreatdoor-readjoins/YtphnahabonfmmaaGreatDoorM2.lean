/- Escapes that are read, as plain lists of numbers: which escape a text begins with; what package escape makes of a text's head and of what stands behind it. No program is named here. What a text is that is read byte by byte, from any sets on: plain mathematics. The reader, where it lies, and its two rows; 'append' onto one of them. What is, alone, head, Final, Sides and Default of package sets answer; what slices.Index and slices.Contains answer at numbers. Final: where the table of last bytes lies in its variable. What Final, Sides and Default of package sets answer; what slices.Index and slices.Contains answer at numbers. Final: where the table of last bytes lies in its variable. What read's unmarked, bare and may answer. A range over a function, at the top of a call or within a round of another one: by what its body does in a round, over an iterator that keeps its state in blocks of its own. No condition. The library contracts of strings.TrimSpace, Cut, Count, Index, of unicode.IsSpace and of utf8.DecodeRuneInString, laid over this program (library theorems applied; no walk); what they ask of the library tables. -/
import Derived.Test.YtphnahabonfmmaaGreatDoorM1
import Derived.Test.YtphnahabonfmmaaGreatDoorChecked
import Derived.Deep.RegionLaw
import Derived.RangeFuncNested
import Derived.RangeFuncBound
import Derived.RangeFuncCalls
import Derived.RangeFuncLeaves
import Derived.Shelf.Abstract
import Derived.Shelf.RegionOpen
import Derived.WalkKit
import Derived.OwnWalkIn
import Derived.TacticsInMore
import Derived.LoopNIn
import Derived.LoopIn
import Derived.Shelf.Strings.TrimSpaceAny
import Derived.Shelf.Strings.Cut
import Derived.Shelf.Strings.Count
import Derived.Shelf.Strings.Search3
import Derived.Shelf.Unicode.IsSpaceAny
import Derived.Shelf.Unicode.DecodeAny
import Derived.Test.YtphnahabonfmmaaGreatDoorProg
namespace Go.Proofs.YtphnahabonfmmaaGreatDoor.V
set_option linter.unusedVariables false

/-- The bytes that may stand between the byte 27 and a set's last bytes. -/
def isHead (x : Int) : Bool := x == 36 || x == 40 || x == 41 || x == 44 || x == 45
def headOf (t : List Int) : List Int := t.takeWhile isHead
def restOf (t : List Int) : List Int := t.dropWhile isHead
theorem head_rest (t : List Int) : headOf t ++ restOf t = t := List.takeWhile_append_dropWhile

/-- An escape of n bytes begins the text, that makes the set that side's. -/
def Reads (r : List Int) (side set : Int) (n : Nat) : Prop := ∃ p, (p, side, set) ∈ escs ∧ p.length = n ∧ p <+: r
def NoEsc (r : List Int) : Prop := ∀ e ∈ escs, ¬ e.1 <+: r

theorem escs_apart : ∀ e ∈ escs, ∀ f ∈ escs, e.1 <+: f.1 → e = f := by decide +kernel
theorem prefix_one {r : List Int} {e f : Esc} (he : e ∈ escs) (hf : f ∈ escs) (h : e.1 <+: r) (k : f.1 <+: r) : e = f := by
  rcases List.prefix_or_prefix_of_prefix h k with h | h
  · exact escs_apart e he f hf h
  · exact (escs_apart f hf e he h).symm
theorem reads_one {r : List Int} {s t s' t' : Int} {n n' : Nat} (h : Reads r s t n) (k : Reads r s' t' n') : s = s' ∧ t = t' ∧ n = n' := by
  obtain ⟨p, h1, h2, h3⟩ := h
  obtain ⟨q, k1, k2, k3⟩ := k
  have := prefix_one h1 k1 h3 k3
  simp only [Prod.mk.injEq] at this
  obtain ⟨rfl, rfl, rfl⟩ := this
  exact ⟨rfl, rfl, h2.symm.trans k2⟩
theorem reads_no {r : List Int} {s t : Int} {n : Nat} (h : Reads r s t n) (k : NoEsc r) : False := by
  obtain ⟨p, h1, _, h3⟩ := h
  exact k _ h1 h3

/-- The first one of k sets, from s on, whose last bytes the text begins with, and how many these are; no bytes if there is none. -/
def amongL (rest : List Int) : Nat → Nat → Nat × Nat
  | _, 0 => (0, 0)
  | s, k + 1 => if (lastT.getD s []).isPrefixOf rest = true then (s, (lastT.getD s []).length) else amongL rest (s + 1) k
theorem among_sound {rest : List Int} : ∀ {k s j n : Nat}, amongL rest s k = (j, n) → n ≠ 0 → s ≤ j ∧ j < s + k ∧ n = (lastT.getD j []).length ∧ lastT.getD j [] <+: rest
  | 0, s, j, n, h, hn => by
    simp only [amongL, Prod.mk.injEq] at h
    omega
  | k + 1, s, j, n, h, hn => by
    rw [amongL] at h
    split at h
    · rename_i hp
      simp only [Prod.mk.injEq] at h
      obtain ⟨rfl, rfl⟩ := h
      exact ⟨Nat.le_refl _, by omega, rfl, List.isPrefixOf_iff_prefix.1 hp⟩
    · obtain ⟨h1, h2, h3, h4⟩ := among_sound h hn
      exact ⟨by omega, by omega, h3, h4⟩
def aloneL (rest : List Int) : Nat × Nat := if [115].isPrefixOf rest = true then (1, 1) else amongL rest 10 3

/-- The side, the set, the last bytes' number, by what stands between. -/
def tellL (head rest : List Int) : Nat × Nat × Nat :=
  if head = [41] ∨ head = [45] then (1, amongL rest 1 8)
  else if head = [40] ∨ head = [44] then (0, amongL rest 1 8)
  else if head = [36, 41] ∨ head = [36, 45] then (1, amongL rest 9 1)
  else if head = [36] ∨ head = [36, 44] then (0, amongL rest 9 1)
  else if head = [] then (0, aloneL rest) else (0, 0, 0)

def Eight (j : Nat) : Prop := (((27 :: ([41] ++ lastT.getD j []), 1, (j : Int)) : Esc) ∈ escs ∧ ((27 :: ([45] ++ lastT.getD j []), 1, (j : Int)) : Esc) ∈ escs
    ∧ ((27 :: ([40] ++ lastT.getD j []), 0, (j : Int)) : Esc) ∈ escs ∧ ((27 :: ([44] ++ lastT.getD j []), 0, (j : Int)) : Esc) ∈ escs)
theorem tell_eight (j : Nat) (h9 : j < 9) (h1 : 1 ≤ j) : Eight j := by
  have : j = 1 ∨ j = 2 ∨ j = 3 ∨ j = 4 ∨ j = 5 ∨ j = 6 ∨ j = 7 ∨ j = 8 := by omega
  rcases this with rfl | rfl | rfl | rfl | rfl | rfl | rfl | rfl <;> exact ⟨by decide +kernel, by decide +kernel, by decide +kernel, by decide +kernel⟩
theorem tell_last (j : Nat) (h9 : j < 13) (h1 : 10 ≤ j) : ((27 :: ([] ++ lastT.getD j []), 0, (j : Int)) : Esc) ∈ escs := by
  have : j = 10 ∨ j = 11 ∨ j = 12 := by omega
  rcases this with rfl | rfl | rfl <;> decide +kernel
theorem tell_reads {t : List Int} {side set n : Nat} (h : tellL (headOf t) (restOf t) = (side, set, n)) (hn : n ≠ 0) : Reads (27 :: t) side set (1 + (headOf t).length + n) := by
  have key : ∀ L : List Int, ((27 :: (headOf t ++ L), (side : Int), (set : Int)) : Esc) ∈ escs → L.length = n → L <+: restOf t → Reads (27 :: t) side set (1 + (headOf t).length + n) := by
    intro L hm hl hp
    refine ⟨_, hm, by simp [hl]; omega, ?_⟩
    obtain ⟨x, hx⟩ := hp
    refine ⟨x, ?_⟩
    rw [List.cons_append, List.append_assoc, hx, head_rest]
  unfold tellL at h
  generalize headOf t = hd at h key
  split at h
  · rename_i hc
    simp only [Prod.mk.injEq] at h
    obtain ⟨rfl, h⟩ := h
    obtain ⟨h1, h2, h3, h4⟩ := among_sound h hn
    obtain ⟨e1, e2, e3, e4⟩ := tell_eight set (by omega) h1
    refine key _ ?_ h3.symm h4
    rcases hc with rfl | rfl
    · exact e1
    · exact e2
  · split at h
    · rename_i hc
      simp only [Prod.mk.injEq] at h
      obtain ⟨rfl, h⟩ := h
      obtain ⟨h1, h2, h3, h4⟩ := among_sound h hn
      obtain ⟨e1, e2, e3, e4⟩ := tell_eight set (by omega) h1
      refine key _ ?_ h3.symm h4
      rcases hc with rfl | rfl
      · exact e3
      · exact e4
    · split at h
      · rename_i hc
        simp only [Prod.mk.injEq] at h
        obtain ⟨rfl, h⟩ := h
        obtain ⟨h1, h2, h3, h4⟩ := among_sound h hn
        obtain rfl : set = 9 := by omega
        refine key _ ?_ h3.symm h4
        rcases hc with rfl | rfl <;> decide
      · split at h
        · rename_i hc
          simp only [Prod.mk.injEq] at h
          obtain ⟨rfl, h⟩ := h
          obtain ⟨h1, h2, h3, h4⟩ := among_sound h hn
          obtain rfl : set = 9 := by omega
          refine key _ ?_ h3.symm h4
          rcases hc with rfl | rfl <;> decide
        · split at h
          · rename_i hc
            subst hc
            simp only [Prod.mk.injEq] at h
            obtain ⟨rfl, h⟩ := h
            unfold aloneL at h
            split at h
            · rename_i hp
              simp only [Prod.mk.injEq] at h
              obtain ⟨rfl, rfl⟩ := h
              exact key [115] (by decide) rfl (List.isPrefixOf_iff_prefix.1 hp)
            · obtain ⟨h1, h2, h3, h4⟩ := among_sound h hn
              exact key _ (tell_last set (by omega) h1) h3.symm h4
          · simp only [Prod.mk.injEq] at h
            omega
theorem tell_some : ∀ e ∈ escs, ∀ x : List Int, (tellL (headOf (e.1.tail ++ x)) (restOf (e.1.tail ++ x))).2.2 ≠ 0 := by
  intro e he x
  simp only [escs, List.mem_cons, List.not_mem_nil, or_false] at he
  rcases he with rfl | rfl | rfl | rfl | rfl | rfl | rfl | rfl | rfl | rfl | rfl | rfl | rfl | rfl | rfl | rfl | rfl | rfl | rfl | rfl | rfl | rfl | rfl | rfl | rfl | rfl | rfl | rfl | rfl | rfl | rfl | rfl | rfl | rfl | rfl | rfl | rfl | rfl | rfl | rfl
  all_goals first
    | exact fun h => absurd (show (1 : Nat) = 0 from h) (by decide)
    | exact fun h => absurd (show (2 : Nat) = 0 from h) (by decide)
theorem escs_begin : ∀ e ∈ escs, e.1 = 27 :: e.1.tail := by decide +kernel
theorem tell_none {t : List Int} (h : (tellL (headOf t) (restOf t)).2.2 = 0) : NoEsc (27 :: t) := by
  intro e he hp
  obtain ⟨x, hx⟩ := hp
  rw [escs_begin e he, List.cons_append] at hx
  have hx' := (List.cons.inj hx).2
  have := tell_some e he x
  rw [hx'] at this
  exact this h
theorem cut_none : ∀ e ∈ escs, ∀ k, k < e.1.length → ∀ f ∈ escs, ¬ f.1 <+: e.1.take k := by decide +kernel
theorem second_not : ∀ e ∈ escs, e.1[1]? ≠ some 27 := by decide +kernel
theorem none_empty {l : List Int} {k : Nat} (h : l.drop k = []) : NoEsc (l.drop k) := by
  rw [h]
  intro e he hp
  have h2 := (escs_ok e he).2.1
  have h3 := hp.length_le
  rw [List.length_nil] at h3
  omega
/-- Both escapes of a print, one behind the other. -/
theorem reads_at {a b : List Int} {side set : Int} (h : (b, side, set) ∈ escs) (c : List Int) : Reads (b ++ c) side set b.length := ⟨b, h, rfl, List.prefix_append _ _⟩
end Go.Proofs.YtphnahabonfmmaaGreatDoor.V
namespace Go.Proofs.YtphnahabonfmmaaGreatDoor.D
open U V
set_option linter.unusedVariables false

/-- The escape that a text begins with: its side, its set, its bytes' number. -/
def escL (l : List Int) : Option (Int × Int × Nat) := (escs.find? fun e => e.1.isPrefixOf l).map fun e => (e.2.1, e.2.2, e.1.length)
theorem escL_of {l : List Int} {side set : Int} {n : Nat} (h : Reads l side set n) : escL l = some (side, set, n) := by
  obtain ⟨p, h1, h2, h3⟩ := h
  unfold escL
  cases hf : escs.find? fun e => e.1.isPrefixOf l with
  | none =>
    have := List.find?_eq_none.1 hf _ h1
    exact absurd (List.isPrefixOf_iff_prefix.2 h3) this
  | some e =>
    have he := List.mem_of_find?_eq_some hf
    have hp := List.find?_some hf
    have := prefix_one he h1 (List.isPrefixOf_iff_prefix.1 hp) h3
    subst this
    simp [h2]
theorem escL_no {l : List Int} (h : NoEsc l) : escL l = none := by
  unfold escL
  rw [Option.map_eq_none_iff, List.find?_eq_none]
  intro e he hp
  exact h e he (List.isPrefixOf_iff_prefix.1 hp)
theorem reads_of {l : List Int} {side set : Int} {n : Nat} (h : escL l = some (side, set, n)) : Reads l side set n := by
  unfold escL at h
  obtain ⟨e, hf, he⟩ := Option.map_eq_some_iff.1 h
  have hm := List.mem_of_find?_eq_some hf
  have hp := List.find?_some hf
  simp only [Prod.mk.injEq] at he
  obtain ⟨rfl, rfl, rfl⟩ := he
  exact ⟨e.1, hm, rfl, List.isPrefixOf_iff_prefix.1 hp⟩
theorem escL_app {a b : List Int} {x : Int × Int × Nat} (h : escL a = some x) : escL (a ++ b) = some x := by
  obtain ⟨side, set, n⟩ := x
  obtain ⟨p, h1, h2, h3⟩ := reads_of h
  exact escL_of ⟨p, h1, h2, h3.trans (List.prefix_append a b)⟩
theorem escs_range : ∀ e ∈ escs, (e.2.1 = 0 ∧ 1 ≤ e.2.2 ∧ e.2.2 ≤ 12) ∨ (e.2.1 = 1 ∧ 1 ≤ e.2.2 ∧ e.2.2 ≤ 9) := by decide
theorem reads_range {l : List Int} {side set : Int} {n : Nat} (h : Reads l side set n) : (side = 0 ∧ 1 ≤ set ∧ set ≤ 12 ∨ side = 1 ∧ 1 ≤ set ∧ set ≤ 9) ∧ 2 ≤ n ∧ n ≤ l.length := by
  obtain ⟨p, h1, h2, h3⟩ := h
  have := escs_range _ h1
  have h4 := (escs_ok _ h1).2.1
  have h5 := h3.length_le
  dsimp only at this h4
  exact ⟨this, by omega, by omega⟩

/-- The character of a byte that stands for it whatever the sets are. -/
def bareL (b : Int) : Option Int := if b = 32 then some 32 else if b = 136 then some 152 else if b = 137 then some 156 else if b = 141 then some 8205 else if b = 142 then some 8204 else none
/-- A byte's number: another one on the other side. -/
def flip (side b : Int) : Int := if side = 0 then b else if b < 128 then b + 128 else b - 128
def numL (side : Int) (l : List Int) : Int := l.foldl (fun n c => n * 256 + flip side c) 0
def setOf (g0 g1 b : Int) : Int := if b < 128 then g0 else g1
def sideOf (b : Int) : Int := if b < 128 then 0 else 128
def sizeOf_ (set : Int) : Nat := if set = 9 then 3 else 1
/-- The character whose number stands first, and its bytes' number. -/
def chr (g0 g1 : Int) (l : List Int) : Option (Int × Nat) :=
  if l.length < sizeOf_ (setOf g0 g1 (l.headD 0)) then none
  else match G.cr (setOf g0 g1 (l.headD 0)) (numL (sideOf (l.headD 0)) (l.take (sizeOf_ (setOf g0 g1 (l.headD 0))))) with
    | (r, true) => some (r, sizeOf_ (setOf g0 g1 (l.headD 0)))
    | (_, false) => none

/-- Where a reader stands: the sets, what is done, the marks that wait, and where the first of these stands. -/
structure St where
  g0 : Int
  g1 : Int
  done : List Int
  marks : List Int
  first : Int
abbrev Out := Except (Int × Int) St
def step (l : List Int) (p : Int) (s : St) : Except (Int × Int) (Nat × St) :=
  if l.headD 0 = 27 then
    match escL l with
    | none => .error (5, p)
    | some (side, set, n) => .ok (n, if side = 0 then { s with g0 := set } else { s with g1 := set })
  else match bareL (l.headD 0) with
    | some c => if s.marks = [] then .ok (1, { s with done := s.done ++ [c] }) else .error (6, s.first)
    | none => match chr s.g0 s.g1 l with
      | none => .error (4, p)
      | some (c, n) =>
        if 0 < C.cls c then .ok (n, { s with marks := s.marks ++ [c], first := if s.marks = [] then p else s.first })
        else .ok (n, { s with done := s.done ++ c :: s.marks, marks := [] })
def run : Nat → List Int → Int → St → Out
  | 0, _, _, s => .ok s
  | k + 1, l, p, s => if l = [] then .ok s else match step l p s with
    | .error f => .error f
    | .ok (n, s') => run k (l.drop n) (p + n) s'
def fin : Out → Out
  | .error f => .error f
  | .ok s => if s.marks = [] then .ok s else .error (6, s.first)
def mayB (g0 g1 : Int) : Bool := decide (1 ≤ g0 ∧ g0 ≤ 12) && decide (1 ≤ g1 ∧ g1 ≤ 9)
def May (g0 g1 : Int) : Prop := (1 ≤ g0 ∧ g0 ≤ 12) ∧ 1 ≤ g1 ∧ g1 ≤ 9
theorem may_iff {g0 g1 : Int} : mayB g0 g1 = true ↔ May g0 g1 := by simp [mayB, May]
def dec (l : List Int) (g0 g1 : Int) : Out := if mayB g0 g1 = true then fin (run l.length l 0 ⟨g0, g1, [], [], 0⟩) else .error (1, 0)

theorem size_range (set : Int) : 1 ≤ sizeOf_ set ∧ sizeOf_ set ≤ 3 := by unfold sizeOf_; split <;> omega
theorem chr_size {g0 g1 : Int} {l : List Int} {c : Int} {n : Nat} (h : chr g0 g1 l = some (c, n)) : 1 ≤ n ∧ n ≤ 3 ∧ n ≤ l.length := by
  unfold chr at h
  split at h
  · cases h
  · rename_i hl
    have := size_range (setOf g0 g1 (l.headD 0))
    split at h
    · obtain ⟨rfl, rfl⟩ := Prod.mk.inj (Option.some.inj h)
      omega
    · cases h
theorem chr_app {g0 g1 : Int} {a b : List Int} {x : Int × Nat} (ha : a ≠ []) (h : chr g0 g1 a = some x) : chr g0 g1 (a ++ b) = some x := by
  have hh : (a ++ b).headD 0 = a.headD 0 := by cases a with | nil => exact absurd rfl ha | cons y t => rfl
  unfold chr at h ⊢
  rw [hh]
  split at h
  · cases h
  · rename_i hl
    rw [if_neg (by rw [List.length_append]; omega), List.take_append_of_le_length (by omega)]
    exact h
/-- A step makes way. -/
theorem step_size {l : List Int} {p : Int} {s s' : St} {n : Nat} (hl : l ≠ []) (h : step l p s = .ok (n, s')) : 1 ≤ n ∧ n ≤ l.length := by
  have h1 : 1 ≤ l.length := by cases l with | nil => exact absurd rfl hl | cons y t => simp
  unfold step at h
  split at h
  · cases he : escL l with
    | none => rw [he] at h; cases h
    | some x =>
      obtain ⟨side, set, m⟩ := x
      rw [he] at h
      simp only [Except.ok.injEq, Prod.mk.injEq] at h
      have := (reads_range (reads_of he)).2
      omega
  · cases hb : bareL (l.headD 0) with
    | some c =>
      rw [hb] at h
      dsimp only at h
      split at h
      · simp only [Except.ok.injEq, Prod.mk.injEq] at h
        omega
      · cases h
    | none =>
      rw [hb] at h
      cases hc : chr s.g0 s.g1 l with
      | none => rw [hc] at h; cases h
      | some x =>
        obtain ⟨c, m⟩ := x
        rw [hc] at h
        have := chr_size hc
        dsimp only at h
        split at h
        · simp only [Except.ok.injEq, Prod.mk.injEq] at h
          omega
        · simp only [Except.ok.injEq, Prod.mk.injEq] at h
          omega
/-- What stands behind changes nothing of a step. -/
theorem step_app {a b : List Int} {p : Int} {s s' : St} {n : Nat} (ha : a ≠ []) (h : step a p s = .ok (n, s')) : step (a ++ b) p s = .ok (n, s') := by
  have hh : (a ++ b).headD 0 = a.headD 0 := by cases a with | nil => exact absurd rfl ha | cons y t => rfl
  unfold step at h ⊢
  rw [hh]
  split at h
  · rename_i h27
    rw [if_pos h27]
    cases he : escL a with
    | none => rw [he] at h; cases h
    | some x => rw [escL_app he]; rw [he] at h; exact h
  · rename_i h27
    rw [if_neg h27]
    cases hb : bareL (a.headD 0) with
    | some c => rw [hb] at h; exact h
    | none =>
      rw [hb] at h
      cases hc : chr s.g0 s.g1 a with
      | none => rw [hc] at h; cases h
      | some x => rw [hc] at h; rw [chr_app ha hc]; exact h
theorem run_nil (k : Nat) (p : Int) (s : St) : run k [] p s = .ok s := by cases k <;> rfl
theorem run_next {k : Nat} {l : List Int} {p : Int} {s s' : St} {n : Nat} (hl : l ≠ []) (h : step l p s = .ok (n, s')) : run (k + 1) l p s = run k (l.drop n) (p + n) s' := by
  rw [run, if_neg hl, h]
theorem run_bad {k : Nat} {l : List Int} {p : Int} {s : St} {f : Int × Int} (hl : l ≠ []) (h : step l p s = .error f) : run (k + 1) l p s = .error f := by
  rw [run, if_neg hl, h]
theorem run_fuel : ∀ (k m : Nat) (l : List Int) (p : Int) (s : St), l.length ≤ k → l.length ≤ m → run k l p s = run m l p s
  | 0, m, l, p, s, hk, _ => by
    have : l = [] := List.eq_nil_of_length_eq_zero (by omega)
    subst this
    rw [run_nil, run_nil]
  | k + 1, 0, l, p, s, _, hm => by
    have : l = [] := List.eq_nil_of_length_eq_zero (by omega)
    subst this
    rw [run_nil, run_nil]
  | k + 1, m + 1, l, p, s, hk, hm => by
    by_cases hl : l = []
    · subst hl
      rw [run_nil, run_nil]
    · cases hs : step l p s with
      | error f => rw [run_bad hl hs, run_bad hl hs]
      | ok x =>
        obtain ⟨n, s'⟩ := x
        have := step_size hl hs
        rw [run_next hl hs, run_next hl hs]
        exact run_fuel k m _ _ _ (by rw [List.length_drop]; omega) (by rw [List.length_drop]; omega)
theorem run_app : ∀ (k : Nat) (a b : List Int) (p : Int) (s s' : St), a.length ≤ k → run k a p s = .ok s' → run (a.length + b.length) (a ++ b) p s = run b.length b (p + a.length) s'
  | 0, a, b, p, s, s', hk, h => by
    have : a = [] := List.eq_nil_of_length_eq_zero (by omega)
    subst this
    obtain rfl : s = s' := by simpa [run] using h
    simp
  | k + 1, a, b, p, s, s', hk, h => by
    by_cases ha : a = []
    · subst ha
      rw [run_nil] at h
      obtain rfl : s = s' := by simpa using h
      simp
    · cases hs : step a p s with
      | error f => rw [run_bad ha hs] at h; cases h
      | ok x =>
        obtain ⟨n, s1⟩ := x
        have hn := step_size ha hs
        rw [run_next ha hs] at h
        have hab : a ++ b ≠ [] := by simp [ha]
        have hpos : a.length + b.length = (a.length + b.length - 1) + 1 := by omega
        rw [hpos, run_next hab (step_app (b := b) ha hs), List.drop_append_of_le_length (by omega)]
        have ih := run_app k (a.drop n) b (p + n) s1 s' (by rw [List.length_drop]; omega) h
        rw [run_fuel _ ((a.drop n).length + b.length) _ _ _ (by rw [List.length_append, List.length_drop]; omega) (by rw [List.length_append]; exact Nat.le_refl _)]
        rw [ih]
        congr 1
        rw [List.length_drop]
        omega
/-- The same reader, further on, with something done ahead. -/
def Like (x : List Int) (d : Int) (s t : St) : Prop := t.g0 = s.g0 ∧ t.g1 = s.g1 ∧ t.done = x ++ s.done ∧ t.marks = s.marks ∧ (s.marks ≠ [] → t.first = s.first + d)
def LikeO (x : List Int) (d : Int) : Out → Out → Prop
  | .error f, .error g => g.1 = f.1 ∧ g.2 = f.2 + d
  | .ok s, .ok t => Like x d s t
  | _, _ => False
theorem step_like {x : List Int} {d : Int} {l : List Int} {p : Int} {s t : St} (h : Like x d s t) :
    (∃ f g, step l p s = .error f ∧ step l (p + d) t = .error g ∧ g.1 = f.1 ∧ g.2 = f.2 + d) ∨ ∃ n s' t', step l p s = .ok (n, s') ∧ step l (p + d) t = .ok (n, t') ∧ Like x d s' t' := by
  obtain ⟨h0, h1, h2, h3, h4⟩ := h
  obtain ⟨t0, t1, td, tm, tf⟩ := t
  obtain ⟨s0, s1, sd, sm, sf⟩ := s
  dsimp only at h0 h1 h2 h3 h4
  subst h0 h1 h2 h3
  unfold step
  by_cases h27 : l.headD 0 = 27
  · rw [if_pos h27, if_pos h27]
    cases he : escL l with
    | none => exact .inl ⟨_, _, rfl, rfl, rfl, rfl⟩
    | some y =>
      obtain ⟨side, set, n⟩ := y
      refine .inr ⟨_, _, _, rfl, rfl, ?_⟩
      by_cases hs : side = 0
      · rw [if_pos hs, if_pos hs]; exact ⟨rfl, rfl, rfl, rfl, h4⟩
      · rw [if_neg hs, if_neg hs]; exact ⟨rfl, rfl, rfl, rfl, h4⟩
  · rw [if_neg h27, if_neg h27]
    cases hb : bareL (l.headD 0) with
    | some c =>
      dsimp only
      by_cases hm : tm = []
      · rw [if_pos hm, if_pos hm]
        exact .inr ⟨_, _, _, rfl, rfl, rfl, rfl, by simp, rfl, h4⟩
      · rw [if_neg hm, if_neg hm]
        exact .inl ⟨_, _, rfl, rfl, rfl, h4 hm⟩
    | none =>
      dsimp only
      cases hc : chr t0 t1 l with
      | none => exact .inl ⟨_, _, rfl, rfl, rfl, rfl⟩
      | some y =>
        obtain ⟨c, n⟩ := y
        dsimp only
        by_cases hk : 0 < C.cls c
        · rw [if_pos hk, if_pos hk]
          refine .inr ⟨_, _, _, rfl, rfl, rfl, rfl, rfl, rfl, fun _ => ?_⟩
          dsimp only
          by_cases hm : tm = []
          · rw [if_pos hm, if_pos hm]
          · rw [if_neg hm, if_neg hm]; exact h4 hm
        · rw [if_neg hk, if_neg hk]
          exact .inr ⟨_, _, _, rfl, rfl, rfl, rfl, by simp, rfl, fun h => absurd rfl h⟩
theorem run_like : ∀ (k : Nat) {x : List Int} {d : Int} (l : List Int) (p : Int) (s t : St), Like x d s t → LikeO x d (run k l p s) (run k l (p + d) t)
  | 0, x, d, l, p, s, t, h => h
  | k + 1, x, d, l, p, s, t, h => by
    by_cases hl : l = []
    · subst hl
      rw [run_nil, run_nil]
      exact h
    · rcases step_like (l := l) (p := p) h with ⟨f, g, e1, e2, h1, h2⟩ | ⟨n, s', t', e1, e2, h'⟩
      · rw [run_bad hl e1, run_bad hl e2]
        exact ⟨h1, h2⟩
      · rw [run_next hl e1, run_next hl e2]
        have := run_like k (l.drop n) (p + n) s' t' h'
        rw [show p + d + n = p + n + d by omega]
        exact this
theorem fin_like {x : List Int} {d : Int} {a b : Out} (h : LikeO x d a b) : LikeO x d (fin a) (fin b) := by
  cases a with
  | error f => cases b with
    | error g => exact h
    | ok t => exact h.elim
  | ok s => cases b with
    | error g => exact h.elim
    | ok t =>
      obtain ⟨h0, h1, h2, h3, h4⟩ := h
      by_cases hm : s.marks = []
      · have hm' : t.marks = [] := h3.trans hm
        have e1 : fin (.ok s) = .ok s := if_pos hm
        have e2 : fin (.ok t) = .ok t := if_pos hm'
        rw [e1, e2]
        exact ⟨h0, h1, h2, h3, h4⟩
      · have hm' : t.marks ≠ [] := fun e => hm (h3.symm.trans e)
        have e1 : fin (.ok s) = .error (6, s.first) := if_neg hm
        have e2 : fin (.ok t) = .error (6, t.first) := if_neg hm'
        rw [e1, e2]
        exact ⟨rfl, h4 hm⟩
theorem step_may {l : List Int} {p : Int} {s s' : St} {n : Nat} (h : step l p s = .ok (n, s')) (hm : May s.g0 s.g1) : May s'.g0 s'.g1 := by
  unfold step at h
  split at h
  · cases he : escL l with
    | none => rw [he] at h; cases h
    | some x =>
      obtain ⟨side, set, m⟩ := x
      rw [he] at h
      simp only [Except.ok.injEq, Prod.mk.injEq] at h
      obtain ⟨_, rfl⟩ := h
      have := (reads_range (reads_of he)).1
      obtain ⟨⟨m1, m2⟩, m3, m4⟩ := hm
      split
      · exact ⟨by dsimp only; omega, by dsimp only; omega⟩
      · exact ⟨by dsimp only; omega, by dsimp only; omega⟩
  · cases hb : bareL (l.headD 0) with
    | some c =>
      rw [hb] at h
      dsimp only at h
      split at h
      · simp only [Except.ok.injEq, Prod.mk.injEq] at h
        obtain ⟨_, rfl⟩ := h
        exact hm
      · cases h
    | none =>
      rw [hb] at h
      cases hc : chr s.g0 s.g1 l with
      | none => rw [hc] at h; cases h
      | some x =>
        obtain ⟨c, m⟩ := x
        rw [hc] at h
        dsimp only at h
        split at h
        · simp only [Except.ok.injEq, Prod.mk.injEq] at h
          obtain ⟨_, rfl⟩ := h
          exact hm
        · simp only [Except.ok.injEq, Prod.mk.injEq] at h
          obtain ⟨_, rfl⟩ := h
          exact hm
theorem run_may : ∀ (k : Nat) {l : List Int} {p : Int} {s s' : St}, run k l p s = .ok s' → May s.g0 s.g1 → May s'.g0 s'.g1
  | 0, l, p, s, s', h, hm => by obtain rfl : s = s' := by simpa [run] using h
                                exact hm
  | k + 1, l, p, s, s', h, hm => by
    by_cases hl : l = []
    · subst hl
      rw [run_nil] at h
      obtain rfl : s = s' := by simpa using h
      exact hm
    · cases hs : step l p s with
      | error f => rw [run_bad hl hs] at h; cases h
      | ok x =>
        obtain ⟨n, s1⟩ := x
        rw [run_next hl hs] at h
        exact run_may k h (step_may hs hm)
theorem fin_ok {o : Out} {s : St} (h : fin o = .ok s) : o = .ok s ∧ s.marks = [] := by
  cases o with
  | error f => cases h
  | ok t =>
    simp only [fin] at h
    split at h
    · rename_i hm
      obtain rfl : t = s := by simpa using h
      exact ⟨rfl, hm⟩
    · cases h
theorem dec_ok {l : List Int} {g0 g1 : Int} {s : St} (h : dec l g0 g1 = .ok s) : May g0 g1 ∧ run l.length l 0 ⟨g0, g1, [], [], 0⟩ = .ok s ∧ s.marks = [] ∧ May s.g0 s.g1 := by
  unfold dec at h
  split at h
  · rename_i hm
    obtain ⟨h1, h2⟩ := fin_ok h
    exact ⟨may_iff.1 hm, h1, h2, run_may _ h1 (may_iff.1 hm)⟩
  · cases h
/-- Two texts, one behind the other. -/
theorem dec_joins {a b : List Int} {g0 g1 : Int} {s : St} (h : dec a g0 g1 = .ok s) : LikeO s.done a.length (dec b s.g0 s.g1) (dec (a ++ b) g0 g1) := by
  obtain ⟨hm, hr, hk, hm'⟩ := dec_ok h
  unfold dec
  rw [if_pos (may_iff.2 hm), if_pos (may_iff.2 hm')]
  refine fin_like ?_
  rw [List.length_append, run_app _ a b 0 _ s (Nat.le_refl _) hr]
  have := run_like b.length (x := s.done) (d := (a.length : Int)) b 0 ⟨s.g0, s.g1, [], [], 0⟩ s ⟨rfl, rfl, by simp, hk, fun h => absurd rfl h⟩
  exact this
end Go.Proofs.YtphnahabonfmmaaGreatDoor.D
namespace Go.Proofs.YtphnahabonfmmaaGreatDoor.D
open Go.RowKit U V
set_option linter.unusedVariables false

theorem info32 : (Tryz.prog.info? 21).map (fun i => (i.zero, i.size, i.bytes)) = some (some (.int .i32 0), 1, 4) := by kernel_rfl
theorem cell_bel {w w' : World} {p : Addr} {v : Value} (h : w.cell? p = some v) (hb : Bel w w') : w'.cell? p = some v := (Below.cell hb (cell_block h)).trans h
/-- A row of the call's own as a slice, its length a letter. -/
theorem own_rdn {w : World} {base : Nat} {e : TypeId} {k : IntKind} {v : Value} {l : List Int} {n : Nat} (h : U.Own w base e k v l) (hn : l.length = n) :
    ∃ A cap, v = .slice A n cap ∧ n ≤ cap ∧ Rd w w.heap.size k A l ∧ (A = none → cap = 0) := by
  subst hn; exact h.rd
theorem own_block {w : World} {base : Nat} {e : TypeId} {k : IntKind} {v : Value} {l : List Int} (h : U.Own w base e k v l) {g : Nat} (hg : v.ownBlock = some g) : base ≤ g ∧ g < w.heap.size := World.ownsRow.lt h g hg
/-- A store below a row's base. -/
theorem own_store {w : World} {base B i : Nat} {e : TypeId} {k : IntKind} {v u : Value} {l : List Int} (h : U.Own w base e k v l) (hB : B < base) : U.Own (w.setCell ⟨B, i, none⟩ u) base e k v l := by
  refine ⟨h.1, ?_⟩
  rcases h.2 with h | ⟨g, cap, cur, hv, hbg, hg, rest⟩
  · exact .inl h
  · exact .inr ⟨g, cap, cur, hv, hbg, by rw [Below.heap_setCell _ _ _ _ (by show g ≠ B; omega)]; exact hg, rest⟩
/-- A row stays where another block grows. -/
theorem own_far {w w' : World} {base : Nat} {e : TypeId} {k : IntKind} {v : Value} {l : List Int} {row : Option Nat} (h : U.Own w base e k v l) (hg : w.grownBy w' row) (hne : ∀ g, v.ownBlock = some g → row ≠ some g) : U.Own w' base e k v l := by
  refine ⟨h.1, ?_⟩
  rcases h.2 with h | ⟨g, cap, cur, rfl, hbg, hgg, rest⟩
  · exact .inl h
  · refine .inr ⟨g, cap, cur, rfl, hbg, ?_, rest⟩
    rw [hg.block g (Array.getElem?_eq_some_iff.1 hgg).1 (Ne.symm (hne g rfl))]
    exact hgg
/-- Cut down to nothing. -/
theorem own_cut {w : World} {base n cap : Nat} {e : TypeId} {k : IntKind} {A : Option Addr} {l : List Int} (h : U.Own w base e k (.slice A n cap) l) : U.Own w base e k (.slice A 0 cap) [] := by
  refine ⟨rfl, ?_⟩
  rcases h.2 with ⟨he, h0⟩ | ⟨g, c, cur, hv, hbg, hgg, h1, h2, h3, h4⟩
  · simp only [Value.slice.injEq] at he
    obtain ⟨rfl, rfl, rfl⟩ := he
    exact .inl ⟨rfl, rfl⟩
  · simp only [Value.slice.injEq] at hv
    obtain ⟨rfl, _, rfl⟩ := hv
    exact .inr ⟨g, cap, cur, rfl, hbg, hgg, by simp, h2, h3, by simp⟩
theorem cut_block {n m cap : Nat} {A : Option Addr} : (Value.slice A n cap).ownBlock = (Value.slice A m cap).ownBlock := by cases A <;> rfl

section
variable {P : Program} {w : World}
/-- 'append' onto a row of the call's own, and which block it may write; from a slice that may be nil. -/
theorem run_append_g {t ty e : TypeId} {base : Nat} {i : TypeInfo} {z : Value} {bytes : Nat} (ht : P.underlying t = some (.slice e)) (hi : P.info? e = some i) (hz : i.zero = some z)
    (hsize : i.size = 1) (hby : i.bytes = bytes) (hzs : z.cells.size = 1) (hb8 : bytes ≤ 8)
    {k : IntKind} {v : Value} {xs : List Int} (hown : U.Own w base e k v xs)
    {B : Nat} {A : Option Addr} {m c : Nat} {ys : List Int} (hr : Rd w B k A ys) (hm : ys.length = m) (hnil : A = none → c = 0)
    (hn : xs.length + m ≤ 1099511627776) (hbase : base ≤ w.heap.size) :
    ∃ v' w', (Builtin.append_ #[t, t] ty #[v, .slice A m c]).run P w = .ok v' w' ∧ U.Own w' base e k v' (xs ++ ys) ∧ w.grownBy w' v.ownBlock ∧ (v'.ownBlock = v.ownBlock ∨ v'.ownBlock = some w.heap.size) := by
  have h63 : xs.length + m ≤ maxLen := by simp only [maxLen]; omega
  have hbytes : (xs.length + m) * bytes ≤ 140737488355328 := Nat.le_trans (Nat.mul_le_mul hn hb8) (by decide)
  rcases A with _ | ad
  · obtain rfl : c = 0 := hnil rfl
    have hy : ys = [] := by
      rcases ys with _ | ⟨y, ys⟩
      · rfl
      · obtain ⟨_, _, e, _⟩ := hr 0 y rfl
        cases e
    subst hy
    obtain rfl : m = 0 := by simpa using hm.symm
    exact ⟨v, w, run_append_owned_none w base t ty e i 1 ht hi v _ _ hown, by simpa using hown, World.grownBy.refl _ _, .inl rfl⟩
  · have hnews : ∀ j u, (ys.map (Value.int k))[j]? = some u → w.cell? (ad.add j) = some u := by
      intro j u hu
      rw [List.getElem?_map] at hu
      obtain ⟨y, hy, rfl⟩ := Option.map_eq_some_iff.1 hu
      obtain ⟨g, off, e, _, hc⟩ := hr j y hy
      cases e
      rw [addr_add]; exact hc
    obtain ⟨v', w', h1, h2, h3, _, h5⟩ := run_append_own_at (P := P) w base t ty e i z 1 bytes ht hi hz hsize hby hzs (by omega) v _ _ hown ad m c (ys.map (Value.int k)) (by simp [hm]) hnews (one_cells k ys) h63 hbytes hbase
    exact ⟨v', w', h1, by unfold U.Own; simpa [hm] using h2, h3, h5⟩
theorem wp_append_g {o : Oper} {a : Act} {K : Act → World → Prop} {Q : Exit → Act → World → Prop} (s x : Operand) (t : TypeId)
    (ho : o.op = .call { callee := .builtin .append, args := #[s, x], argTypes := #[t, t] })
    {e : TypeId} {base : Nat} {i : TypeInfo} {z : Value} {bytes : Nat} (ht : P.underlying t = some (.slice e)) (hi : P.info? e = some i) (hz : i.zero = some z)
    (hsize : i.size = 1) (hby : i.bytes = bytes) (hzs : z.cells.size = 1) (hb8 : bytes ≤ 8)
    {k : IntKind} {v : Value} {xs : List Int} (hown : U.Own w base e k v xs) (hs : a.eval s = v)
    {B : Nat} {A : Option Addr} {m c : Nat} {ys : List Int} (hr : Rd w B k A ys) (hx : a.eval x = .slice A m c) (hm : ys.length = m) (hnil : A = none → c = 0)
    (hn : xs.length + m ≤ 1099511627776) (hbase : base ≤ w.heap.size)
    (h : ∀ v' w', U.Own w' base e k v' (xs ++ ys) → w.grownBy w' v.ownBlock → (v'.ownBlock = v.ownBlock ∨ v'.ownBlock = some w.heap.size) → K (a.put o.dst v') w') : o.wp P a w K Q := by
  obtain ⟨v', w', hrun, h2, h3, h4⟩ := run_append_g (P := P) (ty := o.type) ht hi hz hsize hby hzs hb8 hown hr hm hnil hn hbase
  unfold Oper.wp execOp
  simp only [ho, resolve, invoke, builtin, Sem.run_bind, Sem.run_pure, Result.andThen_ok, List.map_toArray, List.map_cons, List.map_nil, hs, hx, hrun]
  exact h v' w' h2 h3 h4
theorem wpl_append_g {ops : Array Oper} {rest : List Oper} {o : Oper} {a : Act} {Q : Exit → Act → World → Prop} (hw : Region.wanted o (yielded ops a.tmps) = true) (s x : Operand) (t : TypeId)
    (ho : o.op = .call { callee := .builtin .append, args := #[s, x], argTypes := #[t, t] })
    {e : TypeId} {base : Nat} {i : TypeInfo} {z : Value} {bytes : Nat} (ht : P.underlying t = some (.slice e)) (hi : P.info? e = some i) (hz : i.zero = some z)
    (hsize : i.size = 1) (hby : i.bytes = bytes) (hzs : z.cells.size = 1) (hb8 : bytes ≤ 8)
    {k : IntKind} {v : Value} {xs : List Int} (hown : U.Own w base e k v xs) (hs : a.eval s = v)
    {B : Nat} {A : Option Addr} {m c : Nat} {ys : List Int} (hr : Rd w B k A ys) (hx : a.eval x = .slice A m c) (hm : ys.length = m) (hnil : A = none → c = 0)
    (hn : xs.length + m ≤ 1099511627776) (hbase : base ≤ w.heap.size)
    (h : ∀ v' w', U.Own w' base e k v' (xs ++ ys) → w.grownBy w' v.ownBlock → (v'.ownBlock = v.ownBlock ∨ v'.ownBlock = some w.heap.size) → wpList P ops Q rest (a.put o.dst v') w') : wpList P ops Q (o :: rest) a w :=
  BigFrame.wpList_want hw fun _ hK => wp_append_g s x t ho ht hi hz hsize hby hzs hb8 hown hs hr hx hm hnil hn hbase fun v' w' h2 h3 h4 => hK _ _ (h v' w' h2 h3 h4)
theorem step_append_g {ops : Array Oper} {o : Oper} {a : Act} {K : Act → World → Prop} {Q : Exit → Act → World → Prop} {E : Prop} (hgd : o.guard = none) (s x : Operand) (t : TypeId)
    (ho : o.op = .call { callee := .builtin .append, args := #[s, x], argTypes := #[t, t] })
    {e : TypeId} {base : Nat} {i : TypeInfo} {z : Value} {bytes : Nat} (ht : P.underlying t = some (.slice e)) (hi : P.info? e = some i) (hz : i.zero = some z)
    (hsize : i.size = 1) (hby : i.bytes = bytes) (hzs : z.cells.size = 1) (hb8 : bytes ≤ 8)
    {k : IntKind} {v : Value} {xs : List Int} (hown : U.Own w base e k v xs) (hs : a.eval s = v)
    {B : Nat} {A : Option Addr} {m c : Nat} {ys : List Int} (hr : Rd w B k A ys) (hx : a.eval x = .slice A m c) (hm : ys.length = m) (hnil : A = none → c = 0)
    (hn : xs.length + m ≤ 1099511627776) (hbase : base ≤ w.heap.size)
    (h : ∀ v' w', U.Own w' base e k v' (xs ++ ys) → w.grownBy w' v.ownBlock → (v'.ownBlock = v.ownBlock ∨ v'.ownBlock = some w.heap.size) → K (a.put o.dst v') w') :
    if Region.wanted o (yielded ops a.tmps) = true then Oper.wp P o a w K Q else E := by
  have hw : Region.wanted o (yielded ops a.tmps) = true := by simp [Region.wanted, hgd]
  rw [if_pos hw]
  exact wp_append_g s x t ho ht hi hz hsize hby hzs hb8 hown hs hr hx hm hnil hn hbase h
end

/-- The reader lies in block R: the sets, what is done and the marks that wait (two rows of its own, behind it), where the first of these stands. -/
def Rs (R : Nat) (w : World) (g0 g1 : Int) (vd vm : Value) (f : Int) (d m : List Int) : Prop :=
  w.heap[R]? = some (.cells #[.int .i64 g0, .int .i64 g1, vd, vm, .int .i64 f] 64 (0, 0)) ∧ U.Own w (R + 1) 21 .i32 vd d ∧ U.Own w (R + 1) 21 .i32 vm m ∧ ∀ g, vd.ownBlock = some g → vm.ownBlock ≠ some g
section
variable {R : Nat} {w w' : World} {g0 g1 f : Int} {vd vm : Value} {d m : List Int}
theorem Rs.lt (h : Rs R w g0 g1 vd vm f d m) : R < w.heap.size := (Array.getElem?_eq_some_iff.1 h.1).1
theorem Rs.c0 (h : Rs R w g0 g1 vd vm f d m) : w.cell? ⟨R, 0, none⟩ = some (.int .i64 g0) := by simp [World.cell?, h.1]
theorem Rs.c1 (h : Rs R w g0 g1 vd vm f d m) : w.cell? ⟨R, 1, none⟩ = some (.int .i64 g1) := by simp [World.cell?, h.1]
theorem Rs.c2 (h : Rs R w g0 g1 vd vm f d m) : w.cell? ⟨R, 2, none⟩ = some vd := by simp [World.cell?, h.1]
theorem Rs.c3 (h : Rs R w g0 g1 vd vm f d m) : w.cell? ⟨R, 3, none⟩ = some vm := by simp [World.cell?, h.1]
theorem Rs.c4 (h : Rs R w g0 g1 vd vm f d m) : w.cell? ⟨R, 4, none⟩ = some (.int .i64 f) := by simp [World.cell?, h.1]
theorem Rs.free (h : Rs R w g0 g1 vd vm f d m) {i : Nat} : w.frozen? ⟨R, i, none⟩ = false := by simp [World.frozen?, h.1]
theorem Rs.bel (h : Rs R w g0 g1 vd vm f d m) (hb : Bel w w') : Rs R w' g0 g1 vd vm f d m :=
  ⟨by rw [hb.block R h.lt]; exact h.1, h.2.1.keep hb, h.2.2.1.keep hb, h.2.2.2⟩
theorem heap_set {cs : Array Value} {t : TypeId} {i : Nat} {u : Value} (h : w.heap[R]? = some (.cells cs t (0, 0))) : (w.setCell ⟨R, i, none⟩ u).heap[R]? = some (.cells (cs.setIfInBounds i u) t (0, 0)) := by
  simp [World.setCell, Array.getElem?_modify, h]
theorem Rs.set0 (h : Rs R w g0 g1 vd vm f d m) (x : Int) : Rs R (w.setCell ⟨R, 0, none⟩ (.int .i64 x)) x g1 vd vm f d m :=
  ⟨heap_set h.1, own_store h.2.1 (by omega), own_store h.2.2.1 (by omega), h.2.2.2⟩
theorem Rs.set1 (h : Rs R w g0 g1 vd vm f d m) (x : Int) : Rs R (w.setCell ⟨R, 1, none⟩ (.int .i64 x)) g0 x vd vm f d m :=
  ⟨heap_set h.1, own_store h.2.1 (by omega), own_store h.2.2.1 (by omega), h.2.2.2⟩
theorem Rs.set4 (h : Rs R w g0 g1 vd vm f d m) (x : Int) : Rs R (w.setCell ⟨R, 4, none⟩ (.int .i64 x)) g0 g1 vd vm x d m :=
  ⟨heap_set h.1, own_store h.2.1 (by omega), own_store h.2.2.1 (by omega), h.2.2.2⟩
/-- The marks are cut down to nothing. -/
theorem Rs.set3 {A : Option Addr} {n cap : Nat} (h : Rs R w g0 g1 vd (.slice A n cap) f d m) : Rs R (w.setCell ⟨R, 3, none⟩ (.slice A 0 cap)) g0 g1 vd (.slice A 0 cap) f d [] :=
  ⟨heap_set h.1, own_store h.2.1 (by omega), own_cut (own_store h.2.2.1 (by omega)), fun g hd hm => h.2.2.2 g hd (cut_block.trans hm)⟩
theorem Rs.block (h : Rs R w g0 g1 vd vm f d m) {v : Value} {l : List Int} (ho : U.Own w (R + 1) 21 .i32 v l) (hg : w.grownBy w' v.ownBlock) : w'.heap[R]? = some (.cells #[.int .i64 g0, .int .i64 g1, vd, vm, .int .i64 f] 64 (0, 0)) :=
  (hg.block R h.lt fun e => by have := (own_block ho e.symm).1; omega).trans h.1
/-- Behind an 'append' onto what is done. -/
theorem Rs.after_done {v2 : Value} {d' : List Int} (h : Rs R w g0 g1 vd vm f d m) (hg : w.grownBy w' vd.ownBlock) (hv : v2.ownBlock = vd.ownBlock ∨ v2.ownBlock = some w.heap.size) (ho : U.Own w' (R + 1) 21 .i32 v2 d') :
    Rs R (w'.setCell ⟨R, 2, none⟩ v2) g0 g1 v2 vm f d' m := by
  refine ⟨heap_set (h.block h.2.1 hg), own_store ho (by omega), own_store (own_far h.2.2.1 hg fun g hm hd => h.2.2.2 g hd hm) (by omega), fun g hg2 hm => ?_⟩
  rcases hv with e | e
  · exact h.2.2.2 g (e.symm.trans hg2) hm
  · rw [e] at hg2
    have := (own_block h.2.2.1 hm).2
    have := Option.some.inj hg2
    omega
/-- Behind an 'append' onto the marks. -/
theorem Rs.after_marks {v2 : Value} {m' : List Int} (h : Rs R w g0 g1 vd vm f d m) (hg : w.grownBy w' vm.ownBlock) (hv : v2.ownBlock = vm.ownBlock ∨ v2.ownBlock = some w.heap.size) (ho : U.Own w' (R + 1) 21 .i32 v2 m') :
    Rs R (w'.setCell ⟨R, 3, none⟩ v2) g0 g1 vd v2 f d m' := by
  refine ⟨heap_set (h.block h.2.2.1 hg), own_store (own_far h.2.1 hg fun g hd hm => h.2.2.2 g hd hm) (by omega), own_store ho (by omega), fun g hd hm2 => ?_⟩
  rcases hv with e | e
  · exact h.2.2.2 g hd (e.symm.trans hm2)
  · rw [e] at hm2
    have := (own_block h.2.1 hd).2
    have := Option.some.inj hm2
    omega
theorem below_grown {v : Value} {l : List Int} (hR : R < w.heap.size) (ho : U.Own w (R + 1) 21 .i32 v l) (hg : w.grownBy w' v.ownBlock) : Below R w w' :=
  (Below.refl _ _).grown hg (by omega) fun g e => by have := (own_block ho e).1; omega
end
end Go.Proofs.YtphnahabonfmmaaGreatDoor.D
namespace Go.Proofs.YtphnahabonfmmaaGreatDoor.V
open Go.RowKit U
set_option linter.unusedVariables false

theorem is_is (s : Int) (b : Bool) (w : World) (h : decide (1 ≤ s ∧ s ≤ 12) = b) : Calls Tryz.prog 40 #[.int .i64 s] w fun e w' => e = .returned (.bool b) ∧ w = w' := by
  subst h
  go_enter Tryz.func40, Tryz.ntmps40
  go_wp2
  all_goals go_ret
  all_goals refine ⟨ret_bool ?_, rfl⟩
  all_goals (rw [Bool.eq_iff_iff]; simp; try omega)
theorem alone_is (s : Int) (b : Bool) (w : World) (h : decide (10 ≤ s ∧ s ≤ 12) = b) : Calls Tryz.prog 62 #[.int .i64 s] w fun e w' => e = .returned (.bool b) ∧ w = w' := by
  subst h
  go_enter Tryz.func62, Tryz.ntmps62
  go_wp2
  all_goals go_ret
  all_goals refine ⟨ret_bool ?_, rfl⟩
  all_goals (rw [Bool.eq_iff_iff]; simp; try omega)

/-- The table lies in its variable. -/
def Tb (w : World) : Prop := ∀ k l, lastT[k]? = some l → w.cell? ⟨1, k, none⟩ = some (.string (str l))
theorem Tb.bel {w w' : World} (h : Tb w) (hb : Bel w w') : Tb w' := fun k l hl => by
  have := h k l hl
  exact (Below.cell hb (p := ⟨1, k, none⟩) (cell_block this)).trans this

theorem final_no (s : Int) (w : World) (h : ¬ (1 ≤ s ∧ s ≤ 12)) : Calls Tryz.prog 22 #[.int .i64 s] w fun e w' => e = .returned (.tuple #[.int .u8 0, .bool false]) ∧ w = w' := by
  have H := Lib.hid (decide_eq_false h)
  clear h
  go_enter Tryz.func22, Tryz.ntmps22
  go_wp2_with (go_at_call 40; (with_reducible refine (is_is _ false _ H.out).mono ?_); rintro e w' ⟨rfl, rfl⟩)
  go_ret2
  exact ⟨rfl, rfl⟩
end Go.Proofs.YtphnahabonfmmaaGreatDoor.V
namespace Go.Proofs.YtphnahabonfmmaaGreatDoor.V
open Go.RowKit U
set_option linter.unusedVariables false

set_option maxHeartbeats 1000000 in
theorem final_yes (s z : Int) (w : World) (hT : Tb w) (h0 : 1 ≤ s) (h1 : s ≤ 12) (hz : lastB s = z) : Calls Tryz.prog 22 #[.int .i64 s] w fun e w' => e = .returned (.tuple #[.int .u8 z, .bool true]) ∧ w = w' := by
  subst hz
  have H := Lib.hid (decide_eq_true (p := 1 ≤ s ∧ s ≤ 12) ⟨h0, h1⟩)
  have : s = 1 ∨ s = 2 ∨ s = 3 ∨ s = 4 ∨ s = 5 ∨ s = 6 ∨ s = 7 ∨ s = 8 ∨ s = 9 ∨ s = 10 ∨ s = 11 ∨ s = 12 := by omega
  clear h0 h1
  rcases this with rfl | rfl | rfl | rfl | rfl | rfl | rfl | rfl | rfl | rfl | rfl | rfl
  · have hc : w.cell? ⟨1, 1, none⟩ = some (.string ⟨#[66]⟩) := hT 1 _ rfl
    clear hT
    go_enter Tryz.func22, Tryz.ntmps22
    go_wp2_with (go_at_call 40; (with_reducible refine (is_is _ true _ H.out).mono ?_); rintro e w' ⟨rfl, rfl⟩)
    go_ret2
    exact ⟨rfl, rfl⟩
  · have hc : w.cell? ⟨1, 2, none⟩ = some (.string ⟨#[33, 69]⟩) := hT 2 _ rfl
    clear hT
    go_enter Tryz.func22, Tryz.ntmps22
    go_wp2_with (go_at_call 40; (with_reducible refine (is_is _ true _ H.out).mono ?_); rintro e w' ⟨rfl, rfl⟩)
    go_ret2
    exact ⟨rfl, rfl⟩
  · have hc : w.cell? ⟨1, 3, none⟩ = some (.string ⟨#[83]⟩) := hT 3 _ rfl
    clear hT
    go_enter Tryz.func22, Tryz.ntmps22
    go_wp2_with (go_at_call 40; (with_reducible refine (is_is _ true _ H.out).mono ?_); rintro e w' ⟨rfl, rfl⟩)
    go_ret2
    exact ⟨rfl, rfl⟩
  · have hc : w.cell? ⟨1, 4, none⟩ = some (.string ⟨#[50]⟩) := hT 4 _ rfl
    clear hT
    go_enter Tryz.func22, Tryz.ntmps22
    go_wp2_with (go_at_call 40; (with_reducible refine (is_is _ true _ H.out).mono ?_); rintro e w' ⟨rfl, rfl⟩)
    go_ret2
    exact ⟨rfl, rfl⟩
  · have hc : w.cell? ⟨1, 5, none⟩ = some (.string ⟨#[51]⟩) := hT 5 _ rfl
    clear hT
    go_enter Tryz.func22, Tryz.ntmps22
    go_wp2_with (go_at_call 40; (with_reducible refine (is_is _ true _ H.out).mono ?_); rintro e w' ⟨rfl, rfl⟩)
    go_ret2
    exact ⟨rfl, rfl⟩
  · have hc : w.cell? ⟨1, 6, none⟩ = some (.string ⟨#[52]⟩) := hT 6 _ rfl
    clear hT
    go_enter Tryz.func22, Tryz.ntmps22
    go_wp2_with (go_at_call 40; (with_reducible refine (is_is _ true _ H.out).mono ?_); rintro e w' ⟨rfl, rfl⟩)
    go_ret2
    exact ⟨rfl, rfl⟩
  · have hc : w.cell? ⟨1, 7, none⟩ = some (.string ⟨#[78]⟩) := hT 7 _ rfl
    clear hT
    go_enter Tryz.func22, Tryz.ntmps22
    go_wp2_with (go_at_call 40; (with_reducible refine (is_is _ true _ H.out).mono ?_); rintro e w' ⟨rfl, rfl⟩)
    go_ret2
    exact ⟨rfl, rfl⟩
  · have hc : w.cell? ⟨1, 8, none⟩ = some (.string ⟨#[81]⟩) := hT 8 _ rfl
    clear hT
    go_enter Tryz.func22, Tryz.ntmps22
    go_wp2_with (go_at_call 40; (with_reducible refine (is_is _ true _ H.out).mono ?_); rintro e w' ⟨rfl, rfl⟩)
    go_ret2
    exact ⟨rfl, rfl⟩
  · have hc : w.cell? ⟨1, 9, none⟩ = some (.string ⟨#[49]⟩) := hT 9 _ rfl
    clear hT
    go_enter Tryz.func22, Tryz.ntmps22
    go_wp2_with (go_at_call 40; (with_reducible refine (is_is _ true _ H.out).mono ?_); rintro e w' ⟨rfl, rfl⟩)
    go_ret2
    exact ⟨rfl, rfl⟩
  · have hc : w.cell? ⟨1, 10, none⟩ = some (.string ⟨#[98]⟩) := hT 10 _ rfl
    clear hT
    go_enter Tryz.func22, Tryz.ntmps22
    go_wp2_with (go_at_call 40; (with_reducible refine (is_is _ true _ H.out).mono ?_); rintro e w' ⟨rfl, rfl⟩)
    go_ret2
    exact ⟨rfl, rfl⟩
  · have hc : w.cell? ⟨1, 11, none⟩ = some (.string ⟨#[112]⟩) := hT 11 _ rfl
    clear hT
    go_enter Tryz.func22, Tryz.ntmps22
    go_wp2_with (go_at_call 40; (with_reducible refine (is_is _ true _ H.out).mono ?_); rintro e w' ⟨rfl, rfl⟩)
    go_ret2
    exact ⟨rfl, rfl⟩
  · have hc : w.cell? ⟨1, 12, none⟩ = some (.string ⟨#[103]⟩) := hT 12 _ rfl
    clear hT
    go_enter Tryz.func22, Tryz.ntmps22
    go_wp2_with (go_at_call 40; (with_reducible refine (is_is _ true _ H.out).mono ?_); rintro e w' ⟨rfl, rfl⟩)
    go_ret2
    exact ⟨rfl, rfl⟩

/-- A new list of these numbers. -/
def Gives (w : World) (k : IntKind) (l : List Int) (n : Nat) (e : Ending) (w' : World) : Prop :=
  ∃ g cap, e = .returned (.slice (some ⟨g, 0, none⟩) n cap) ∧ n ≤ cap ∧ Rd w' w'.heap.size k (some ⟨g, 0, none⟩) l ∧ Bel w w'
/-- A row that was just made. -/
theorem Own.lit (w : World) (e : TypeId) (k : IntKind) {cs : Array Value} {l : List Int} {n : Nat} (h : cs.toList = l.map (Value.int k)) (hn : l.length = n) (hm : n ≤ 1000) :
    U.Own (w.alloc (.cells cs e)) w.heap.size e k (.slice (some ⟨w.heap.size, 0, none⟩) n n) l := by
  subst hn
  have hs : cs.size = l.length := by rw [← Array.length_toList, h, List.length_map]
  refine ⟨by simp, .inr ⟨w.heap.size, l.length, cs, rfl, Nat.le_refl _, heap_alloc_new w _, Nat.le_refl _, ?_, by omega, ?_⟩⟩
  · simp only [maxLen]; omega
  · rw [Nat.mul_one, h, List.take_of_length_le (by simp)]
theorem rd_lit {w : World} {cs : Array Value} {l : List Int} {k : IntKind} {t : TypeId} (h : cs.toList = l.map (Value.int k)) : Rd (w.alloc (.cells cs t)) (w.heap.size + 1) k (some ⟨w.heap.size, 0, none⟩) l := fun i x hx => by
  refine ⟨w.heap.size, 0, rfl, by omega, ?_⟩
  have e : cs = (l.map (Value.int k)).toArray := by rw [← h]
  have h1 := World.cell?_alloc_mark w cs t (0, 0) i
  rw [Nat.zero_add]
  refine h1.trans ?_
  rw [e]
  simp [hx]

theorem sides_no (s : Int) (w : World) (h : ¬ (1 ≤ s ∧ s ≤ 12)) : Calls Tryz.prog 42 #[.int .i64 s] w fun e w' => e = .returned (.slice none 0 0) ∧ w = w' := by
  have H := Lib.hid (decide_eq_false h)
  clear h
  go_enter Tryz.func42, Tryz.ntmps42
  go_wp2_with (go_at_call 40; (with_reducible refine (is_is _ false _ H.out).mono ?_); rintro e w' ⟨rfl, rfl⟩)
  go_ret
  exact ⟨rfl, rfl⟩
theorem sides_one (s : Int) (w : World) (h0 : 10 ≤ s) (h1 : s ≤ 12) : Calls Tryz.prog 42 #[.int .i64 s] w (Gives w .i64 [0] 1) := by
  have H := Lib.hid (decide_eq_true (p := 1 ≤ s ∧ s ≤ 12) (by omega))
  have H1 := Lib.hid (decide_eq_true (p := 10 ≤ s ∧ s ≤ 12) (by omega))
  clear h0 h1
  go_enter Tryz.func42, Tryz.ntmps42
  go_wp2_with (first
    | (go_at_call 40; (with_reducible refine (is_is _ true _ H.out).mono ?_); rintro e w' ⟨rfl, rfl⟩)
    | (go_at_call 62; (with_reducible refine (alone_is _ true _ H1.out).mono ?_); rintro e w' ⟨rfl, rfl⟩))
  go_ret
  exact ⟨w.heap.size, 1, rfl, by omega, (rd_lit (l := [0]) rfl).here, (Bel.refl w).alloc _⟩
theorem sides_two (s : Int) (w : World) (h0 : 1 ≤ s) (h1 : s < 10) : Calls Tryz.prog 42 #[.int .i64 s] w (Gives w .i64 [0, 1] 2) := by
  have H := Lib.hid (decide_eq_true (p := 1 ≤ s ∧ s ≤ 12) (by omega))
  have H1 := Lib.hid (decide_eq_false (p := 10 ≤ s ∧ s ≤ 12) (by omega))
  clear h0 h1
  go_enter Tryz.func42, Tryz.ntmps42
  go_wp2_with (first
    | (go_at_call 40; (with_reducible refine (is_is _ true _ H.out).mono ?_); rintro e w' ⟨rfl, rfl⟩)
    | (go_at_call 62; (with_reducible refine (alone_is _ false _ H1.out).mono ?_); rintro e w' ⟨rfl, rfl⟩))
  go_ret
  exact ⟨w.heap.size, 2, rfl, by omega, (rd_lit (l := [0, 1]) rfl).here, (Bel.refl w).alloc _⟩

def IdxRel (W : World) (l : List Int) (x : Int) (i : Value) (w : World) : Prop :=
  ∃ k : Nat, i = .int .i64 k ∧ k ≤ l.length ∧ w = W ∧ ∀ j y, j < k → l[j]? = some y → y ≠ x
def IdxPost (w : World) (b : Bool) (e : Ending) (w' : World) : Prop := ∃ r : Int, e = .returned (.int .i64 r) ∧ w' = w ∧ decide (0 ≤ r) = b

set_option maxHeartbeats 1000000 in
theorem index_is (A : Option Addr) (n c : Nat) (l : List Int) (x : Int) (b : Bool) (B : Nat) (w : World) (hA : Rd w B .i64 A l) (hn : l.length = n) (hn' : n ≤ 1000) (hb : decide (x ∈ l) = b) :
    Calls Tryz.prog 61 #[.slice A n c, .int .i64 x] w (IdxPost w b) := by
  subst hb
  have HN := Lib.hid hn
  have HA := Lib.hid hA
  clear hn hA
  go_enter Tryz.func61, Tryz.ntmps61
  go_wp2
  go_loopw [8] (fun i wr => IdxRel w l x i wr) (fun i _ => n - (intOf i).toNat)
  case atStart => exact ⟨0, rfl, Nat.zero_le _, rfl, by omega⟩
  case round =>
    obtain ⟨k, rfl, hk, rfl, hne⟩ := hrel
    rw [HN.out] at hk
    have HE := Lib.hid hne
    clear hne
    by_cases hlt : k < n
    · obtain ⟨y, hy⟩ : ∃ y, l[k]? = some y := ⟨l[k]'(by rw [HN.out]; exact hlt), by simp⟩
      obtain ⟨g1, o1, rfl, hg1, hc1⟩ := HA.out k y hy
      have HY := Lib.hid hy
      clear hy
      have hi1 : (0 : Int) ≤ (k : Int) := by omega
      have hi2 : (k : Int) < (n : Int) := by omega
      by_cases hxy : x = y
      · subst hxy
        have hq : (x == x) = true := by simp
        go_wp2
        go_ret
        refine ⟨k, rfl, rfl, ?_⟩
        rw [decide_eq_true (List.mem_of_getElem? HY.out)]
        simp
      · have hq : (x == y) = false := by simpa using hxy
        go_wp2
        go_roundw
        case rel =>
          refine ⟨k + 1, by go_num, by rw [HN.out]; omega, rfl, fun j z hj hz => ?_⟩
          rcases Nat.lt_or_eq_of_le (Nat.le_of_lt_succ hj) with h | rfl
          · exact HE.out j z h hz
          · obtain rfl := Option.some.inj (HY.out.symm.trans hz)
            exact fun e => hxy e.symm
        case measure => simp [intOf]; omega
    · have hx : decide (x ∈ l) = false := by
        rw [decide_eq_false_iff_not]
        intro hm
        obtain ⟨j, hj⟩ := List.getElem?_of_mem hm
        have := (List.getElem?_eq_some_iff.1 hj).1
        rw [HN.out] at this
        exact HE.out j x (by omega) hj rfl
      have hx := Lib.hid hx
      go_wp2
      go_ret
      exact ⟨-1, rfl, rfl, by rw [hx.out]; rfl⟩

theorem contains_is (A : Option Addr) (n c : Nat) (l : List Int) (x : Int) (b : Bool) (B : Nat) (w : World) (hA : Rd w B .i64 A l) (hn : l.length = n) (hn' : n ≤ 1000) (hb : decide (x ∈ l) = b) :
    Calls Tryz.prog 41 #[.slice A n c, .int .i64 x] w fun e w' => e = .returned (.bool b) ∧ w' = w := by
  go_enter Tryz.func41, Tryz.ntmps41
  go_wp2_with fail
  refine (index_is A n c l x b B w hA hn hn' hb).mono ?_
  rintro e w' ⟨r, rfl, rfl, hr⟩
  clear hA hn hb
  by_cases h : 0 ≤ r
  · rw [decide_eq_true h] at hr
    subst hr
    go_wp2
    go_ret
    exact ⟨rfl, rfl⟩
  · rw [decide_eq_false h] at hr
    subst hr
    go_wp2
    go_ret
    exact ⟨ret_bool (by simp; omega), rfl⟩
end Go.Proofs.YtphnahabonfmmaaGreatDoor.V
namespace Go.Proofs.YtphnahabonfmmaaGreatDoor.D
open Go.RowKit U V
set_option linter.unusedVariables false

def FaultP (w : World) (x y : Int) (e : Ending) (w' : World) : Prop := e = .returned (.agg #[.int .i64 x, .int .i64 y]) ∧ Bel w w'
set_option maxHeartbeats 2000000 in
theorem unmarked_is (R n : Nat) (x y : Int) (g0 g1 f : Int) (vd vm : Value) (d m : List Int) (w : World) (hs : Rs R w g0 g1 vd vm f d m) (hn : m.length = n) (hx : (n = 0 ∧ x = 0 ∧ y = 0) ∨ (n ≠ 0 ∧ x = 6 ∧ y = f)) :
    Calls Tryz.prog 25 #[.pointer (some ⟨R, 0, none⟩)] w (FaultP w x y) := by
  obtain ⟨A, cap, rfl, hc, _, _⟩ := own_rdn hs.2.2.1 hn
  have hb := (Bel.refl w).alloc (.cells #[.int .i64 0, .int .i64 0] 38)
  have c3 := cell_bel hs.c3 hb
  have c4 := cell_bel hs.c4 hb
  have hne : w.heap.size ≠ R := by have := hs.lt; omega
  have hne' : R ≠ w.heap.size := by omega
  have HB := Lib.hid hb
  clear hs hn hc hb
  rcases hx with ⟨rfl, rfl, rfl⟩ | ⟨h0, rfl, rfl⟩
  · go_enter Tryz.func25, Tryz.ntmps25
    go_wp2
    refine bodyPost_ret (v := .agg #[.int .i64 0, .int .i64 0]) (by simp [results, Tryz.results25, go_sem]) rfl ⟨rfl, ?_⟩
    exact (Bel.refl w).alloc _
  · have q0 : ((n : Int) == 0) = false := by simp; omega
    go_enter Tryz.func25, Tryz.ntmps25
    go_wp2
    refine bodyPost_ret (v := .agg #[.int .i64 6, .int .i64 y]) (by simp [results, Tryz.results25, go_sem]) rfl ⟨rfl, ?_⟩
    exact (Bel.refl w).alloc _

theorem bare_is (b c : Int) (ok : Bool) (w : World) (h : (bareL b = some c ∧ ok = true) ∨ (bareL b = none ∧ c = 0 ∧ ok = false)) :
    Calls Tryz.prog 44 #[.int .u8 b] w fun e w' => e = .returned (.tuple #[.int .i32 c, .bool ok]) ∧ w' = w := by
  unfold bareL at h
  by_cases h1 : b = 32
  · subst h1
    obtain ⟨rfl, rfl⟩ : c = 32 ∧ ok = true := by simpa [eq_comm] using h
    go_enter Tryz.func44, Tryz.ntmps44
    go_wp2
    go_ret2
    exact ⟨rfl, rfl⟩
  · rw [if_neg h1] at h
    have q1 : (b == 32) = false := by simpa using h1
    clear h1
    by_cases h2 : b = 136
    · subst h2
      obtain ⟨rfl, rfl⟩ : c = 152 ∧ ok = true := by simpa [eq_comm] using h
      go_enter Tryz.func44, Tryz.ntmps44
      go_wp2
      go_ret2
      exact ⟨rfl, rfl⟩
    · rw [if_neg h2] at h
      have q2 : (b == 136) = false := by simpa using h2
      clear h2
      by_cases h3 : b = 137
      · subst h3
        obtain ⟨rfl, rfl⟩ : c = 156 ∧ ok = true := by simpa [eq_comm] using h
        go_enter Tryz.func44, Tryz.ntmps44
        go_wp2
        go_ret2
        exact ⟨rfl, rfl⟩
      · rw [if_neg h3] at h
        have q3 : (b == 137) = false := by simpa using h3
        clear h3
        by_cases h4 : b = 141
        · subst h4
          obtain ⟨rfl, rfl⟩ : c = 8205 ∧ ok = true := by simpa [eq_comm] using h
          go_enter Tryz.func44, Tryz.ntmps44
          go_wp2
          go_ret2
          exact ⟨rfl, rfl⟩
        · rw [if_neg h4] at h
          have q4 : (b == 141) = false := by simpa using h4
          clear h4
          by_cases h5 : b = 142
          · subst h5
            obtain ⟨rfl, rfl⟩ : c = 8204 ∧ ok = true := by simpa [eq_comm] using h
            go_enter Tryz.func44, Tryz.ntmps44
            go_wp2
            go_ret2
            exact ⟨rfl, rfl⟩
          · rw [if_neg h5] at h
            have q5 : (b == 142) = false := by simpa using h5
            clear h5
            obtain ⟨rfl, rfl⟩ : c = 0 ∧ ok = false := by simpa [eq_comm] using h
            go_enter Tryz.func44, Tryz.ntmps44
            go_wp2
            go_ret2
            exact ⟨rfl, rfl⟩

/-- A list of sides, and whether 0 and 1 are in it. -/
def SidesP (s : Int) (w : World) (e : Ending) (w' : World) : Prop := ∃ A n cap, e = .returned (.slice A n cap) ∧ Bel w w' ∧
  Hid (∀ (side : Int) (b : Bool), ((side = 0 ∧ decide (1 ≤ s ∧ s ≤ 12) = b) ∨ (side = 1 ∧ decide (1 ≤ s ∧ s ≤ 9) = b)) →
    Calls Tryz.prog 41 #[.slice A n cap, .int .i64 side] w' fun e w'' => e = .returned (.bool b) ∧ w'' = w')
theorem sides_any (s : Int) (w : World) : Calls Tryz.prog 42 #[.int .i64 s] w (SidesP s w) := by
  by_cases h : 1 ≤ s ∧ s ≤ 12
  · by_cases h9 : s ≤ 9
    · refine (sides_two s w h.1 (by omega)).mono ?_
      rintro e w' ⟨g, cap, rfl, hc, hr, hb⟩
      refine ⟨_, _, _, rfl, hb, Lib.hid fun side b hsb => contains_is _ 2 cap [0, 1] side b _ w' hr rfl (by omega) ?_⟩
      rcases hsb with ⟨rfl, rfl⟩ | ⟨rfl, rfl⟩
      · rw [decide_eq_true h]; decide
      · rw [decide_eq_true (show 1 ≤ s ∧ s ≤ 9 by omega)]; decide
    · refine (sides_one s w (by omega) h.2).mono ?_
      rintro e w' ⟨g, cap, rfl, hc, hr, hb⟩
      refine ⟨_, _, _, rfl, hb, Lib.hid fun side b hsb => contains_is _ 1 cap [0] side b _ w' hr rfl (by omega) ?_⟩
      rcases hsb with ⟨rfl, rfl⟩ | ⟨rfl, rfl⟩
      · rw [decide_eq_true h]; decide
      · rw [decide_eq_false (show ¬ (1 ≤ s ∧ s ≤ 9) by omega)]; decide
  · refine (sides_no s w h).mono ?_
    rintro e w' ⟨rfl, rfl⟩
    refine ⟨none, 0, 0, rfl, Bel.refl w, Lib.hid fun side b hsb => contains_is none 0 0 [] side b w.heap.size w Rd.nil rfl (by omega) ?_⟩
    rcases hsb with ⟨rfl, rfl⟩ | ⟨rfl, rfl⟩
    · rw [decide_eq_false h]; decide
    · rw [decide_eq_false (show ¬ (1 ≤ s ∧ s ≤ 9) by omega)]; decide

theorem may_is (g0 g1 : Int) (b : Bool) (w : World) (h : mayB g0 g1 = b) :
    Calls Tryz.prog 23 #[.agg #[.int .i64 g0, .int .i64 g1]] w fun e w' => e = .returned (.bool b) ∧ Bel w w' := by
  have hb0 := (Bel.refl w).alloc (.cells #[.int .i64 g0, .int .i64 g1] 35)
  have k0 : (w.alloc (.cells #[.int .i64 g0, .int .i64 g1] 35)).cell? ⟨w.heap.size, 0, none⟩ = some (.int .i64 g0) := by simp [go_sem]
  have k1 : (w.alloc (.cells #[.int .i64 g0, .int .i64 g1] 35)).cell? ⟨w.heap.size, 1, none⟩ = some (.int .i64 g1) := by simp [go_sem]
  have HB0 := Lib.hid hb0
  have K1 := Lib.hid k1
  unfold mayB at h
  have HS := Lib.hid (fun s w => sides_any s w)
  clear hb0
  by_cases h0 : 1 ≤ g0 ∧ g0 ≤ 12
  · have q0 : decide (1 ≤ g0 ∧ g0 ≤ 12) = true := decide_eq_true h0
    rw [q0, Bool.true_and] at h
    have HQ := Lib.hid q0
    have HH := Lib.hid h
    clear h0 q0 h
    go_enter Tryz.func23, Tryz.ntmps23
    go_wp2_with fail
    with_reducible refine (HS.out _ _).mono ?_
    rintro e w1 ⟨A, n, cap, rfl, hb1, hC⟩
    go_wp2_with fail
    with_reducible refine (hC.out 0 true (.inl ⟨rfl, HQ.out⟩)).mono ?_
    rintro e w2 ⟨rfl, rfl⟩
    have k2 := cell_bel K1.out hb1
    have HB1 := Lib.hid (HB0.out.trans hb1)
    clear k0 k1 hb1 hC
    go_wp2_with fail
    with_reducible refine (HS.out _ _).mono ?_
    rintro e w3 ⟨A3, n3, cap3, rfl, hb3, hC3⟩
    go_wp2_with fail
    with_reducible refine (hC3.out 1 b (.inr ⟨rfl, HH.out⟩)).mono ?_
    rintro e w4 ⟨rfl, rfl⟩
    go_wp2
    go_ret
    exact ⟨rfl, HB1.out.trans hb3⟩
  · have q0 : decide (1 ≤ g0 ∧ g0 ≤ 12) = false := decide_eq_false h0
    rw [q0, Bool.false_and] at h
    subst h
    have HQ := Lib.hid q0
    clear h0 q0
    go_enter Tryz.func23, Tryz.ntmps23
    go_wp2_with fail
    with_reducible refine (HS.out _ _).mono ?_
    rintro e w1 ⟨A, n, cap, rfl, hb1, hC⟩
    go_wp2_with fail
    with_reducible refine (hC.out 0 false (.inl ⟨rfl, HQ.out⟩)).mono ?_
    rintro e w2 ⟨rfl, rfl⟩
    go_wp2
    go_ret
    exact ⟨rfl, HB0.out.trans hb1⟩
end Go.Proofs.YtphnahabonfmmaaGreatDoor.D
namespace Go.Proofs.YtphnahabonfmmaaGreatDoor.U
open Go.RowKit Go.Shelf
set_option linter.unusedVariables false

/-- Below E nothing is touched but the blocks from b0 up to b1. -/
structure Tch (b0 b1 E : Nat) (W W' : World) : Prop where
  os : W'.os = W.os
  tape : W'.tape = W.tape
  output : W'.output = W.output
  size : W.heap.size ≤ W'.heap.size
  block : ∀ j, j < E → ¬ (b0 ≤ j ∧ j < b1) → W'.heap[j]? = W.heap[j]?
/-- The blocks from b0 up to b1 lie as they lay, and so do those from E on that were there. -/
structure Kep (b0 b1 E : Nat) (W W' : World) : Prop where
  size : W.heap.size ≤ W'.heap.size
  block : ∀ j, j < W.heap.size → (b0 ≤ j ∧ j < b1) ∨ E ≤ j → W'.heap[j]? = W.heap[j]?
theorem Tch.refl (b0 b1 E : Nat) (W : World) : Tch b0 b1 E W W := ⟨rfl, rfl, rfl, Nat.le_refl _, fun _ _ _ => rfl⟩
theorem Tch.trans {b0 b1 E : Nat} {A B C : World} (h : Tch b0 b1 E A B) (k : Tch b0 b1 E B C) : Tch b0 b1 E A C :=
  ⟨k.os.trans h.os, k.tape.trans h.tape, k.output.trans h.output, Nat.le_trans h.size k.size, fun j h1 h2 => (k.block j h1 h2).trans (h.block j h1 h2)⟩
theorem Tch.below {b0 b1 E : Nat} {W W' : World} (h : Below E W W') : Tch b0 b1 E W W' := ⟨h.os, h.tape, h.output, h.size, fun j h1 _ => h.block j h1⟩
theorem Tch.to_below {b0 b1 E B : Nat} {W W' : World} (h : Tch b0 b1 E W W') (h0 : B ≤ b0) (h1 : B ≤ E) : Below B W W' := ⟨h.os, h.tape, h.output, h.size, fun j hj => h.block j (by omega) (by omega)⟩
theorem Tch.mono {b0 b1 E E' : Nat} {W W' : World} (h : Tch b0 b1 E W W') (hE : E' ≤ E) : Tch b0 b1 E' W W' := ⟨h.os, h.tape, h.output, h.size, fun j h1 h2 => h.block j (by omega) h2⟩
theorem Tch.of_bel {b0 b1 E : Nat} {W W' : World} (h : Bel W W') (hE : E ≤ W.heap.size) : Tch b0 b1 E W W' := Tch.below (Below.mono h hE)
theorem Tch.put {b0 b1 E : Nat} (W : World) (l : Nat) (o : Obj) (hl : E ≤ l ∨ (b0 ≤ l ∧ l < b1)) : Tch b0 b1 E W (W.putObj l o) :=
  ⟨rfl, rfl, rfl, by rw [World.putObj_size]; exact Nat.le_refl _, fun j h1 h2 => World.putObj_heap_other (by omega)⟩
theorem Tch.cell {b0 b1 E : Nat} (W : World) (p : Addr) (v : Value) (hl : E ≤ p.block ∨ (b0 ≤ p.block ∧ p.block < b1)) : Tch b0 b1 E W (W.setCell p v) :=
  ⟨rfl, rfl, rfl, by simp [World.setCell], fun j h1 h2 => Below.heap_setCell _ _ _ _ (by omega)⟩
theorem Tch.boxed {b0 b1 E B t : Nat} {v : Value} {W W' : World} (h : Tch b0 b1 E W W') (hb : Boxed W B t v) (h1 : B < E) (h2 : ¬ (b0 ≤ B ∧ B < b1)) : Boxed W' B t v := (h.block B h1 h2).trans hb
theorem Kep.refl (b0 b1 E : Nat) (W : World) : Kep b0 b1 E W W := ⟨Nat.le_refl _, fun _ _ _ => rfl⟩
theorem Kep.trans {b0 b1 E : Nat} {A B C : World} (h : Kep b0 b1 E A B) (k : Kep b0 b1 E B C) : Kep b0 b1 E A C :=
  ⟨Nat.le_trans h.size k.size, fun j h1 h2 => (k.block j (Nat.lt_of_lt_of_le h1 h.size) h2).trans (h.block j h1 h2)⟩
theorem Kep.of_bel {b0 b1 E : Nat} {W W' : World} (h : Bel W W') : Kep b0 b1 E W W' := ⟨Below.size h, fun j h1 _ => Below.block h j h1⟩
theorem Kep.mono {b0 b1 E E' : Nat} {W W' : World} (h : Kep b0 b1 E W W') (hE : E ≤ E') : Kep b0 b1 E' W W' := ⟨h.size, fun j h1 h2 => h.block j h1 (by omega)⟩
/-- What keeps all from E on keeps other blocks beyond it. -/
theorem Kep.wide {b0 b1 c0 c1 E E' : Nat} {W W' : World} (h : Kep b0 b1 E W W') (h0 : E ≤ c0) (hE : E ≤ E') : Kep c0 c1 E' W W' := ⟨h.size, fun j h1 h2 => h.block j h1 (by omega)⟩
theorem Kep.put {b0 b1 E : Nat} (W : World) (l : Nat) (o : Obj) (hl : l < E) (h2 : b1 ≤ l) : Kep b0 b1 E W (W.putObj l o) :=
  ⟨by rw [World.putObj_size]; exact Nat.le_refl _, fun j _ h => World.putObj_heap_other (by omega)⟩
theorem Kep.cell {b0 b1 E : Nat} (W : World) (p : Addr) (v : Value) (hl : p.block < E) (h2 : ¬ (b0 ≤ p.block ∧ p.block < b1)) : Kep b0 b1 E W (W.setCell p v) :=
  ⟨by simp [World.setCell], fun j _ h => Below.heap_setCell _ _ _ _ (by omega)⟩
theorem Kep.boxed {b0 b1 E B t : Nat} {v : Value} {W W' : World} (h : Kep b0 b1 E W W') (hb : Boxed W B t v) (h1 : (b0 ≤ B ∧ B < b1) ∨ E ≤ B) : Boxed W' B t v := (h.block B hb.lt h1).trans hb

theorem boxed_bel {W W' : World} {B t : Nat} {v : Value} (h : Boxed W B t v) (hb : Bel W W') : Boxed W' B t v := (hb.block B h.lt).trans h
theorem roundIn_any {m m' : Nat} {P : Program} {l : Nat} {f : FuncId} {tmps : Array Value} {assign body : Code} {w : World} {R : Ending → World → Prop} (h : RoundIn Fence.wide m P l f tmps assign body w R) : RoundIn Fence.wide m' P l f tmps assign body w R :=
  ⟨h.1, fun c cs _ => h.2 c cs (room_wide _)⟩
/-- What an iterator tells its caller, told one by one: the list tb, in order, until it is told to stop. Z: what it asks of the world; its state lies in the blocks from b0 up to b1. -/
def Seq {α : Type} (P : Program) (encs : α → Array Value) (tb : List α) (b0 b1 gf : Nat) (pb lb : Array Value) (Z : World → Prop) (Wz : World) : Prop :=
  ∀ (l E : Nat) (J Jx : List α → World → Prop), (∀ pre W, J pre W → Z W) →
    (∀ pre W W', J pre W → Tch b0 b1 E W W' → J pre W') → (∀ pre W W', Jx pre W → Tch b0 b1 E W W' → Jx pre W') →
    (∀ pre x W, J pre W → (∃ rest, tb = pre ++ x :: rest) → YieldAt Fence.wide 0 P l (encs x) W fun e W' =>
      ((e = .returned (.bool true) ∧ J (pre ++ [x]) W') ∨ (e = .returned (.bool false) ∧ Jx (pre ++ [x]) W')) ∧ Kep b0 b1 E W W') →
    ∀ W, Wz.heap.size ≤ l → l < E → E ≤ W.heap.size → (∀ j, b0 ≤ j → j < b1 → W.heap[j]? = Wz.heap[j]?) → J [] W →
      Calls P gf (pb ++ #[.func (.yield l) #[] #[]] ++ lb) W fun e W' => (∃ v, e = .returned v) ∧ (J tb W' ∨ ∃ pre, Jx pre W')

/-- How a round may be left: it goes on, or it returns; what is the iterator's own lies as it lay. -/
def endsB {α : Type} (b0 b1 E : Nat) (I : List α → World → Prop) (Ix : World → Prop) (pre : List α) (W : World) : Exit → Act → World → Prop
  | .normal, _, W' => Kep b0 b1 E W W' ∧ I pre W'
  | .ret, _, W' => Kep b0 b1 E W W' ∧ Ix W'
  | _, _, _ => False

section
variable {α : Type} (encs : α → Array Value) (tb : List α) (b0 b1 : Nat) {P : Program} {m gf : Nat} {g : Operand} {ps : Array Tmp} {assign body : Code} {Q : Exit → Act → World → Prop} {a : Act} {Wz : World} {pb lb : Array Value} {Z : World → Prop}
theorem range_top (h1 : 1 ≤ m) (hb : b1 ≤ Wz.heap.size) (hg : a.eval g = .func (.func gf) pb lb) (eg : ∀ args w, (callFunc gf args).run P w = .ok (.enter gf args) w) (hps : ∀ x, (encs x).size = ps.size)
    (hseq : Seq P encs tb b0 b1 gf pb lb Z Wz) (I : List α → World → Prop) (Ix : World → Prop) (hIZ : ∀ pre W, I pre W → Z W)
    (hI : ∀ pre W W', I pre W → Tch b0 b1 Wz.heap.size W W' → I pre W') (hX : ∀ W W', Ix W → Tch b0 b1 Wz.heap.size W W' → Ix W') (h0 : I [] Wz) (a₁ : α → Act)
    (hassign : ∀ (l : Nat) (x : α) (W : World) (K : Act → World → Prop), K (a₁ x) W →
      assign.wpIn (Fence.wide.inRound l) (m - 1 - 1) P (Exit.then K (fun _ _ _ => False)) { tmps := (ps.zip (encs x)).foldl (fun t (p, v) => t.setIfInBounds p v) a.tmps, defers := [] } W)
    (hbody : ∀ (l : Nat) (pre : List α) (x : α) (W : World), Wz.heap.size ≤ l → (∃ r, W.heap[l]? = some (.loop r)) → I pre W → (∃ rest, tb = pre ++ x :: rest) →
      body.wpIn (Fence.wide.inRound l) (m - 1 - 1) P (endsB b0 b1 Wz.heap.size I Ix (pre ++ [x]) W) (a₁ x) W)
    (hdone : ∀ W, I tb W → W.heap[Wz.heap.size]? = some (.deferred (some [])) → Q .normal { a with defers := { target := .collected Wz.heap.size, args := #[] } :: a.defers } W)
    (hstop : ∀ W, Ix W → W.heap[Wz.heap.size]? = some (.deferred (some [])) → Code.ret.wpIn Fence.wide m P Q { a with defers := { target := .collected Wz.heap.size, args := #[] } :: a.defers } W) :
    (Code.rangeFunc g ps assign body).wpIn Fence.wide m P Q a Wz := by
  refine wpIn_rangeFunc fun fn _ => ?_
  let rc : LoopState → Option Code → Loop := fun st pe => { state := st, pending := pe, fn, tmps := a.tmps, params := ps, assign, body, defers := Wz.heap.size }
  let W1 : World := (Wz.alloc (.deferred (some []))).alloc (.loop (rc .ready none))
  have hsz : (Wz.alloc (.deferred (some []))).heap.size = Wz.heap.size + 1 := World.size_alloc _ _
  have hsz1 : W1.heap.size = Wz.heap.size + 2 := by
    show ((Wz.alloc (.deferred (some []))).alloc (.loop (rc .ready none))).heap.size = _
    rw [World.size_alloc, hsz]
  have hB1 : Bel Wz W1 := ((Bel.refl Wz).alloc _).alloc _
  have hl1 : W1.heap[Wz.heap.size + 1]? = some (.loop (rc .ready none)) := by
    have h := World.alloc_heap_new (Wz.alloc (.deferred (some []))) (.loop (rc .ready none))
    rwa [hsz] at h
  have hd1 : W1.heap[Wz.heap.size]? = some (.deferred (some [])) :=
    (Below.block ((Bel.refl (Wz.alloc (.deferred (some [])))).alloc (.loop (rc .ready none))) _ (by rw [hsz]; omega)).trans (World.alloc_heap_new Wz _)
  have put_d : ∀ (W : World) (o : Obj), W.heap[Wz.heap.size]? = some (.deferred (some [])) → (W.putObj (Wz.heap.size + 1) o).heap[Wz.heap.size]? = some (.deferred (some [])) := fun W o h => (World.putObj_heap_other (by omega)).trans h
  have put_I : ∀ pre (W : World) (o : Obj), I pre W → I pre (W.putObj (Wz.heap.size + 1) o) := fun pre W o h => hI pre W _ h (Tch.put W _ o (.inl (by omega)))
  have put_X : ∀ (W : World) (o : Obj), Ix W → Ix (W.putObj (Wz.heap.size + 1) o) := fun W o h => hX W _ h (Tch.put W _ o (.inl (by omega)))
  refine ⟨Wz.heap.size + 1, [{ target := .collected Wz.heap.size, args := #[] }], W1, { target := .fn (.func gf) lb, args := pb ++ #[.func (.yield (Wz.heap.size + 1)) #[] #[]] }, W1, gf, pb ++ #[.func (.yield (Wz.heap.size + 1)) #[] #[]] ++ lb, W1, ?_, ?_, fun _ _ => trivial, ?_, fun _ => h1, ?_⟩
  · exact run_enterLoop_outer fn a.tmps ps assign body
  · simp only [resolve, hg]
    simp [go_sem]
  · simp [invoke, go_sem, eg]
  refine (callsIn_wide.2 (hseq (Wz.heap.size + 1) (Wz.heap.size + 2) (fun pre W => I pre W ∧ W.heap[Wz.heap.size + 1]? = some (.loop (rc .ready none)) ∧ W.heap[Wz.heap.size]? = some (.deferred (some [])))
    (fun _ W => Ix W ∧ W.heap[Wz.heap.size + 1]? = some (.loop (rc .done (some .ret))) ∧ W.heap[Wz.heap.size]? = some (.deferred (some [])))
    (fun pre W h => hIZ pre W h.1)
    (fun pre W W' h hb' => ⟨hI _ _ _ h.1 (hb'.mono (by omega)), (hb'.block _ (by omega) (by omega)).trans h.2.1, (hb'.block _ (by omega) (by omega)).trans h.2.2⟩)
    (fun _ W W' h hb' => ⟨hX _ _ h.1 (hb'.mono (by omega)), (hb'.block _ (by omega) (by omega)).trans h.2.1, (hb'.block _ (by omega) (by omega)).trans h.2.2⟩)
    ?_ W1 (by omega) (by omega) (by omega) (fun j _ hj => Below.block hB1 j (by omega)) ⟨hI _ _ _ h0 (Tch.of_bel hB1 (Nat.le_refl _)), hl1, hd1⟩)).mono ?_
  · rintro pre x W ⟨hi, hl, hd⟩ hx
    have hlt : Wz.heap.size + 1 < W.heap.size := (Array.getElem?_eq_some_iff.1 hl).1
    refine ⟨fn, _, assign, body, run_yield hl (hps x), roundIn_any (m := m - 1 - 1) (roundIn_of_wpIn trivial (hassign _ x W _ ⟨_, run_beginRound hl rfl, ?_⟩))⟩
    have hl2 : (W.putObj (Wz.heap.size + 1) (.loop { rc .ready none with state := .busy })).heap[Wz.heap.size + 1]? = some (.loop { rc .ready none with state := .busy }) := World.putObj_heap_same hlt
    have hd2 := put_d W (.loop { rc .ready none with state := .busy }) hd
    have hk2 : Kep b0 b1 (Wz.heap.size + 2) W (W.putObj (Wz.heap.size + 1) (.loop { rc .ready none with state := .busy })) := Kep.put W _ _ (by omega) (by omega)
    refine wpIn_mono (hbody _ pre x _ (by omega) ⟨_, hl2⟩ (put_I _ _ _ hi) hx) ?_
    rintro e a3 W3 hp
    cases e with
    | normal =>
      obtain ⟨hk, hi3⟩ := hp
      have hl3 := (hk.block _ (Array.getElem?_eq_some_iff.1 hl2).1 (by omega)).trans hl2
      have hd3 := (hk.block _ (Array.getElem?_eq_some_iff.1 hd2).1 (by omega)).trans hd2
      have hlt3 : Wz.heap.size + 1 < W3.heap.size := (Array.getElem?_eq_some_iff.1 hl3).1
      exact ⟨_, _, run_endRound none hl3, .inl ⟨rfl, put_I _ _ _ hi3, World.putObj_heap_same hlt3, put_d _ _ hd3⟩, (hk2.trans (hk.mono (by omega))).trans (Kep.put _ _ _ (by omega) (by omega))⟩
    | ret =>
      obtain ⟨hk, hx3⟩ := hp
      have hl3 := (hk.block _ (Array.getElem?_eq_some_iff.1 hl2).1 (by omega)).trans hl2
      have hd3 := (hk.block _ (Array.getElem?_eq_some_iff.1 hd2).1 (by omega)).trans hd2
      exact ⟨_, _, run_endRound (some .ret) hl3, .inr ⟨rfl, put_X _ _ hx3, World.putObj_heap_same (Array.getElem?_eq_some_iff.1 hl3).1, put_d _ _ hd3⟩, (hk2.trans (hk.mono (by omega))).trans (Kep.put _ _ _ (by omega) (by omega))⟩
    | exit id => exact hp.elim
    | goto t => exact hp.elim
    | panic ch => exact hp.elim
    | outgrown => exact hp.elim
  · rintro e W2 ⟨⟨v, rfl⟩, (⟨hi, hl, hd⟩ | ⟨pre, hi, hl, hd⟩)⟩
    · exact ⟨none, _, run_endLoop hl (by simp [rc]), hdone _ (put_I _ _ _ hi) (put_d _ _ hd)⟩
    · exact ⟨some .ret, _, run_endLoop hl (by simp [rc]), hstop _ (put_X _ _ hi) (put_d _ _ hd)⟩

/-- .. within a round of loop l₀. -/
theorem range_in {l₀ : Nat} {r₀ : Loop} (hl₀ : Wz.heap[l₀]? = some (.loop r₀)) (h1 : 1 ≤ m) (hb : b1 ≤ Wz.heap.size) (hg : a.eval g = .func (.func gf) pb lb) (eg : ∀ args w, (callFunc gf args).run P w = .ok (.enter gf args) w) (hps : ∀ x, (encs x).size = ps.size)
    (hseq : Seq P encs tb b0 b1 gf pb lb Z Wz) (I : List α → World → Prop) (Ix : World → Prop) (hIZ : ∀ pre W, I pre W → Z W)
    (hI : ∀ pre W W', I pre W → Tch b0 b1 Wz.heap.size W W' → I pre W') (hX : ∀ W W', Ix W → Tch b0 b1 Wz.heap.size W W' → Ix W') (h0 : I [] Wz) (a₁ : α → Act)
    (hassign : ∀ (l : Nat) (x : α) (W : World) (K : Act → World → Prop), K (a₁ x) W →
      assign.wpIn (Fence.wide.inRound l) (m - 1 - 1) P (Exit.then K (fun _ _ _ => False)) { tmps := (ps.zip (encs x)).foldl (fun t (p, v) => t.setIfInBounds p v) a.tmps, defers := [] } W)
    (hbody : ∀ (l : Nat) (pre : List α) (x : α) (W : World), Wz.heap.size ≤ l → (∃ r, W.heap[l]? = some (.loop r)) → I pre W → (∃ rest, tb = pre ++ x :: rest) →
      body.wpIn (Fence.wide.inRound l) (m - 1 - 1) P (endsB b0 b1 Wz.heap.size I Ix (pre ++ [x]) W) (a₁ x) W)
    (hdone : ∀ W, I tb W → Q .normal a W)
    (hstop : ∀ W, Ix W → Code.ret.wpIn (Fence.wide.inRound l₀) m P Q a W) :
    (Code.rangeFunc g ps assign body).wpIn (Fence.wide.inRound l₀) m P Q a Wz := by
  refine wpIn_rangeFunc fun fn _ => ?_
  let rc : LoopState → Option Code → Loop := fun st pe => { state := st, pending := pe, fn, tmps := a.tmps, params := ps, assign, body, defers := r₀.defers }
  let W1 : World := Wz.alloc (.loop (rc .ready none))
  have hsz1 : W1.heap.size = Wz.heap.size + 1 := World.size_alloc _ _
  have hB1 : Bel Wz W1 := (Bel.refl Wz).alloc _
  have hl1 : W1.heap[Wz.heap.size]? = some (.loop (rc .ready none)) := World.alloc_heap_new Wz (.loop (rc .ready none))
  have put_I : ∀ pre (W : World) (o : Obj), I pre W → I pre (W.putObj Wz.heap.size o) := fun pre W o h => hI pre W _ h (Tch.put W _ o (.inl (by omega)))
  have put_X : ∀ (W : World) (o : Obj), Ix W → Ix (W.putObj Wz.heap.size o) := fun W o h => hX W _ h (Tch.put W _ o (.inl (by omega)))
  refine ⟨Wz.heap.size, [], W1, { target := .fn (.func gf) lb, args := pb ++ #[.func (.yield Wz.heap.size) #[] #[]] }, W1, gf, pb ++ #[.func (.yield Wz.heap.size) #[] #[]] ++ lb, W1, ?_, ?_, fun _ _ => trivial, ?_, fun _ => h1, ?_⟩
  · exact run_enterLoop_inner hl₀ fn a.tmps ps assign body
  · simp only [resolve, hg]
    simp [go_sem]
  · simp [invoke, go_sem, eg]
  refine (CallsIn.inRound l₀ (callsIn_wide.2 (hseq Wz.heap.size (Wz.heap.size + 1) (fun pre W => I pre W ∧ W.heap[Wz.heap.size]? = some (.loop (rc .ready none)))
    (fun _ W => Ix W ∧ W.heap[Wz.heap.size]? = some (.loop (rc .done (some .ret))))
    (fun pre W h => hIZ pre W h.1)
    (fun pre W W' h hb' => ⟨hI _ _ _ h.1 (hb'.mono (by omega)), (hb'.block _ (by omega) (by omega)).trans h.2⟩)
    (fun _ W W' h hb' => ⟨hX _ _ h.1 (hb'.mono (by omega)), (hb'.block _ (by omega) (by omega)).trans h.2⟩)
    ?_ W1 (by omega) (by omega) (by omega) (fun j _ hj => Below.block hB1 j (by omega)) ⟨hI _ _ _ h0 (Tch.of_bel hB1 (Nat.le_refl _)), hl1⟩))).mono ?_
  · rintro pre x W ⟨hi, hl⟩ hx
    have hlt : Wz.heap.size < W.heap.size := (Array.getElem?_eq_some_iff.1 hl).1
    refine ⟨fn, _, assign, body, run_yield hl (hps x), roundIn_any (m := m - 1 - 1) (roundIn_of_wpIn trivial (hassign _ x W _ ⟨_, run_beginRound hl rfl, ?_⟩))⟩
    have hl2 : (W.putObj Wz.heap.size (.loop { rc .ready none with state := .busy })).heap[Wz.heap.size]? = some (.loop { rc .ready none with state := .busy }) := World.putObj_heap_same hlt
    have hk2 : Kep b0 b1 (Wz.heap.size + 1) W (W.putObj Wz.heap.size (.loop { rc .ready none with state := .busy })) := Kep.put W _ _ (by omega) (by omega)
    refine wpIn_mono (hbody _ pre x _ (by omega) ⟨_, hl2⟩ (put_I _ _ _ hi) hx) ?_
    rintro e a3 W3 hp
    cases e with
    | normal =>
      obtain ⟨hk, hi3⟩ := hp
      have hl3 := (hk.block _ (Array.getElem?_eq_some_iff.1 hl2).1 (by omega)).trans hl2
      have hlt3 : Wz.heap.size < W3.heap.size := (Array.getElem?_eq_some_iff.1 hl3).1
      exact ⟨_, _, run_endRound none hl3, .inl ⟨rfl, put_I _ _ _ hi3, World.putObj_heap_same hlt3⟩, (hk2.trans (hk.mono (by omega))).trans (Kep.put _ _ _ (by omega) (by omega))⟩
    | ret =>
      obtain ⟨hk, hx3⟩ := hp
      have hl3 := (hk.block _ (Array.getElem?_eq_some_iff.1 hl2).1 (by omega)).trans hl2
      exact ⟨_, _, run_endRound (some .ret) hl3, .inr ⟨rfl, put_X _ _ hx3, World.putObj_heap_same (Array.getElem?_eq_some_iff.1 hl3).1⟩, (hk2.trans (hk.mono (by omega))).trans (Kep.put _ _ _ (by omega) (by omega))⟩
    | exit id => exact hp.elim
    | goto t => exact hp.elim
    | panic ch => exact hp.elim
    | outgrown => exact hp.elim
  · rintro e W2 ⟨⟨v, rfl⟩, (⟨hi, hl⟩ | ⟨pre, hi, hl⟩)⟩
    · exact ⟨none, _, run_endLoop hl (by simp [rc]), hdone _ (put_I _ _ _ hi)⟩
    · exact ⟨some .ret, _, run_endLoop hl (by simp [rc]), hstop _ (put_X _ _ hi)⟩
end
end Go.Proofs.YtphnahabonfmmaaGreatDoor.U
namespace Go.Proofs.YtphnahabonfmmaaGreatDoor.U
open Go.Shelf Go.RowKit
set_option linter.unusedVariables false
def lays163_ren : Go.Shelf.Ren := ⟨fun | 163 => 127 | 237 => 139 | 199 => 134 | 238 => 140 | 272 => 145 | 261 => 144 | 273 => 146 | 197 => 133 | 315 => 155 | 311 => 153 | 312 => 154 | 271 => 156 | 260 => 143 | 120 => 164 | n => n, fun | 9 => 9 | 37 => 33 | 3 => 3 | 0 => 0 | 5 => 5 | 4 => 4 | 40 => 27 | 119 => 180 | 21 => 21 | 51 => 123 | 141 => 188 | 105 => 90 | 196 => 197 | 193 => 194 | 198 => 199 | 49 => 28 | 194 => 195 | 201 => 202 | 226 => 212 | 46 => 97 | 227 => 213 | 139 => 191 | 138 => 190 | n => n, fun | 0 => 3 | 6 => 5 | 3 => 6 | 4 => 7 | n => n⟩
theorem lays163 : Go.Proofs.Lays.n163 Tryz.prog lays163_ren := {
  mixed := by kernel_rfl
  f120 := Tryz.func164.trans (congrArg some (by kernel_rfl))
  f163 := Tryz.func127.trans (congrArg some (by kernel_rfl))
  f197 := Tryz.func133.trans (congrArg some (by kernel_rfl))
  f199 := Tryz.func134.trans (congrArg some (by kernel_rfl))
  f237 := Tryz.func139.trans (congrArg some (by kernel_rfl))
  f238 := Tryz.func140.trans (congrArg some (by kernel_rfl))
  f260 := Tryz.func143.trans (congrArg some (by kernel_rfl))
  f261 := Tryz.func144.trans (congrArg some (by kernel_rfl))
  f271 := Tryz.func156.trans (congrArg some (by kernel_rfl))
  f272 := Tryz.func145.trans (congrArg some (by kernel_rfl))
  f273 := Tryz.func146.trans (congrArg some (by kernel_rfl))
  f311 := Tryz.func153.trans (congrArg some (by kernel_rfl))
  f312 := Tryz.func154.trans (congrArg some (by kernel_rfl))
  f315 := Tryz.func155.trans (congrArg some (by kernel_rfl))
  t0 := Tryz.underlying0
  a0 := Tryz.isAgg0
  z0 := Tryz.sizeOf0
  v0 := Tryz.zeroValue0
  t3 := Tryz.underlying3
  a3 := Tryz.isAgg3
  z3 := Tryz.sizeOf3
  v3 := Tryz.zeroValue3
  t4 := Tryz.underlying4
  a4 := Tryz.isAgg4
  z4 := Tryz.sizeOf4
  v4 := Tryz.zeroValue4
  t5 := Tryz.underlying5
  a5 := Tryz.isAgg5
  z5 := Tryz.sizeOf5
  v5 := Tryz.zeroValue5
  t9 := Tryz.underlying9
  a9 := Tryz.isAgg9
  z9 := Tryz.sizeOf9
  v9 := Tryz.zeroValue9
  t21 := Tryz.underlying21
  a21 := Tryz.isAgg21
  z21 := Tryz.sizeOf21
  v21 := Tryz.zeroValue21
  t37 := Tryz.underlying33
  a37 := Tryz.isAgg33
  z37 := Tryz.sizeOf33
  v37 := Tryz.zeroValue33
  t40 := Tryz.underlying27
  a40 := Tryz.isAgg27
  z40 := Tryz.sizeOf27
  v40 := Tryz.zeroValue27
  t46 := Tryz.underlying97
  a46 := Tryz.isAgg97
  z46 := Tryz.sizeOf97
  v46 := Tryz.zeroValue97
  t49 := Tryz.underlying28
  a49 := Tryz.isAgg28
  z49 := Tryz.sizeOf28
  v49 := Tryz.zeroValue28
  t51 := Tryz.underlying123
  a51 := Tryz.isAgg123
  z51 := Tryz.sizeOf123
  v51 := Tryz.zeroValue123
  t105 := Tryz.underlying90
  a105 := Tryz.isAgg90
  z105 := Tryz.sizeOf90
  v105 := Tryz.zeroValue90
  t119 := Tryz.underlying180
  a119 := Tryz.isAgg180
  z119 := Tryz.sizeOf180
  t138 := Tryz.underlying190
  a138 := Tryz.isAgg190
  z138 := Tryz.sizeOf190
  v138 := Tryz.zeroValue190
  t139 := Tryz.underlying191
  a139 := Tryz.isAgg191
  z139 := Tryz.sizeOf191
  v139 := Tryz.zeroValue191
  t141 := Tryz.underlying188
  a141 := Tryz.isAgg188
  z141 := Tryz.sizeOf188
  v141 := Tryz.zeroValue188
  t193 := Tryz.underlying194
  a193 := Tryz.isAgg194
  z193 := Tryz.sizeOf194
  v193 := Tryz.zeroValue194
  t194 := Tryz.underlying195
  a194 := Tryz.isAgg195
  z194 := Tryz.sizeOf195
  v194 := Tryz.zeroValue195
  t196 := Tryz.underlying197
  a196 := Tryz.isAgg197
  z196 := Tryz.sizeOf197
  v196 := Tryz.zeroValue197
  t198 := Tryz.underlying199
  a198 := Tryz.isAgg199
  z198 := Tryz.sizeOf199
  v198 := Tryz.zeroValue199
  t201 := Tryz.underlying202
  a201 := Tryz.isAgg202
  z201 := Tryz.sizeOf202
  v201 := Tryz.zeroValue202
  t226 := Tryz.underlying212
  a226 := Tryz.isAgg212
  z226 := Tryz.sizeOf212
  v226 := Tryz.zeroValue212
  t227 := Tryz.underlying213
  a227 := Tryz.isAgg213
  z227 := Tryz.sizeOf213
  v227 := Tryz.zeroValue213
  g0 := by kernel_rfl
  g3 := by kernel_rfl
  g4 := by kernel_rfl
  g6 := by kernel_rfl }
theorem space_extra : Space.Extra Tryz.prog lays163_ren := {
  gNamed := by kernel_rfl }
def lays145_ren : Go.Shelf.Ren := ⟨fun | 145 => 126 | 220 => 138 | 219 => 142 | 217 => 149 | 225 => 150 | 224 => 151 | 267 => 152 | 266 => 162 | 314 => 163 | n => n, fun | 9 => 9 | 4 => 4 | 59 => 174 | 3 => 3 | 5 => 5 | 46 => 97 | 146 => 210 | 51 => 123 | n => n, fun | 1 => 4 | n => n⟩
theorem lays145 : Go.Proofs.Lays.n145 Tryz.prog lays145_ren := {
  mixed := by kernel_rfl
  f145 := Tryz.func126.trans (congrArg some (by kernel_rfl))
  f217 := Tryz.func149.trans (congrArg some (by kernel_rfl))
  f219 := Tryz.func142.trans (congrArg some (by kernel_rfl))
  f220 := Tryz.func138.trans (congrArg some (by kernel_rfl))
  f224 := Tryz.func151.trans (congrArg some (by kernel_rfl))
  f225 := Tryz.func150.trans (congrArg some (by kernel_rfl))
  f266 := Tryz.func162.trans (congrArg some (by kernel_rfl))
  f267 := Tryz.func152.trans (congrArg some (by kernel_rfl))
  f314 := Tryz.func163.trans (congrArg some (by kernel_rfl))
  t3 := Tryz.underlying3
  a3 := Tryz.isAgg3
  z3 := Tryz.sizeOf3
  v3 := Tryz.zeroValue3
  t4 := Tryz.underlying4
  a4 := Tryz.isAgg4
  z4 := Tryz.sizeOf4
  v4 := Tryz.zeroValue4
  t5 := Tryz.underlying5
  a5 := Tryz.isAgg5
  z5 := Tryz.sizeOf5
  v5 := Tryz.zeroValue5
  t9 := Tryz.underlying9
  a9 := Tryz.isAgg9
  z9 := Tryz.sizeOf9
  v9 := Tryz.zeroValue9
  t46 := Tryz.underlying97
  a46 := Tryz.isAgg97
  z46 := Tryz.sizeOf97
  v46 := Tryz.zeroValue97
  t51 := Tryz.underlying123
  a51 := Tryz.isAgg123
  z51 := Tryz.sizeOf123
  v51 := Tryz.zeroValue123
  t59 := Tryz.underlying174
  a59 := Tryz.isAgg174
  z59 := Tryz.sizeOf174
  v59 := Tryz.zeroValue174
  t146 := Tryz.underlying210
  a146 := Tryz.isAgg210
  z146 := Tryz.sizeOf210
  v146 := Tryz.zeroValue210
  g1 := by kernel_rfl }
def lays138_ren : Go.Shelf.Ren := ⟨fun | 138 => 112 | 195 => 129 | 218 => 130 | 143 => 131 | 219 => 142 | 217 => 149 | 225 => 150 | 224 => 151 | 267 => 152 | 266 => 162 | 314 => 163 | n => n, fun | 9 => 9 | 3 => 3 | 4 => 4 | 5 => 5 | 0 => 0 | 46 => 97 | 146 => 210 | 51 => 123 | n => n, fun | 1 => 4 | n => n⟩
theorem lays138 : Go.Proofs.Lays.n138 Tryz.prog lays138_ren := {
  mixed := by kernel_rfl
  f138 := Tryz.func112.trans (congrArg some (by kernel_rfl))
  f143 := Tryz.func131.trans (congrArg some (by kernel_rfl))
  f195 := Tryz.func129.trans (congrArg some (by kernel_rfl))
  f217 := Tryz.func149.trans (congrArg some (by kernel_rfl))
  f218 := Tryz.func130.trans (congrArg some (by kernel_rfl))
  f219 := Tryz.func142.trans (congrArg some (by kernel_rfl))
  f224 := Tryz.func151.trans (congrArg some (by kernel_rfl))
  f225 := Tryz.func150.trans (congrArg some (by kernel_rfl))
  f266 := Tryz.func162.trans (congrArg some (by kernel_rfl))
  f267 := Tryz.func152.trans (congrArg some (by kernel_rfl))
  f314 := Tryz.func163.trans (congrArg some (by kernel_rfl))
  t0 := Tryz.underlying0
  a0 := Tryz.isAgg0
  z0 := Tryz.sizeOf0
  v0 := Tryz.zeroValue0
  t3 := Tryz.underlying3
  a3 := Tryz.isAgg3
  z3 := Tryz.sizeOf3
  v3 := Tryz.zeroValue3
  t4 := Tryz.underlying4
  a4 := Tryz.isAgg4
  z4 := Tryz.sizeOf4
  v4 := Tryz.zeroValue4
  t5 := Tryz.underlying5
  a5 := Tryz.isAgg5
  z5 := Tryz.sizeOf5
  v5 := Tryz.zeroValue5
  t9 := Tryz.underlying9
  a9 := Tryz.isAgg9
  z9 := Tryz.sizeOf9
  v9 := Tryz.zeroValue9
  t46 := Tryz.underlying97
  a46 := Tryz.isAgg97
  z46 := Tryz.sizeOf97
  v46 := Tryz.zeroValue97
  t51 := Tryz.underlying123
  a51 := Tryz.isAgg123
  z51 := Tryz.sizeOf123
  v51 := Tryz.zeroValue123
  t146 := Tryz.underlying210
  a146 := Tryz.isAgg210
  z146 := Tryz.sizeOf210
  v146 := Tryz.zeroValue210
  g1 := by kernel_rfl }
def lays199_ren : Go.Shelf.Ren := ⟨fun | 199 => 134 | 261 => 144 | 311 => 153 | 312 => 154 | n => n, fun | 21 => 21 | 4 => 4 | 51 => 123 | 141 => 188 | 0 => 0 | 196 => 197 | 193 => 194 | 3 => 3 | 198 => 199 | 49 => 28 | 194 => 195 | 201 => 202 | 226 => 212 | 46 => 97 | 227 => 213 | n => n, fun | 6 => 5 | n => n⟩
theorem lays199 : Go.Proofs.Lays.n199 Tryz.prog lays199_ren := {
  mixed := by kernel_rfl
  f199 := Tryz.func134.trans (congrArg some (by kernel_rfl))
  f261 := Tryz.func144.trans (congrArg some (by kernel_rfl))
  f311 := Tryz.func153.trans (congrArg some (by kernel_rfl))
  f312 := Tryz.func154.trans (congrArg some (by kernel_rfl))
  t0 := Tryz.underlying0
  a0 := Tryz.isAgg0
  z0 := Tryz.sizeOf0
  v0 := Tryz.zeroValue0
  t3 := Tryz.underlying3
  a3 := Tryz.isAgg3
  z3 := Tryz.sizeOf3
  v3 := Tryz.zeroValue3
  t4 := Tryz.underlying4
  a4 := Tryz.isAgg4
  z4 := Tryz.sizeOf4
  v4 := Tryz.zeroValue4
  t21 := Tryz.underlying21
  a21 := Tryz.isAgg21
  z21 := Tryz.sizeOf21
  v21 := Tryz.zeroValue21
  t46 := Tryz.underlying97
  a46 := Tryz.isAgg97
  z46 := Tryz.sizeOf97
  v46 := Tryz.zeroValue97
  t49 := Tryz.underlying28
  a49 := Tryz.isAgg28
  z49 := Tryz.sizeOf28
  v49 := Tryz.zeroValue28
  t51 := Tryz.underlying123
  a51 := Tryz.isAgg123
  z51 := Tryz.sizeOf123
  v51 := Tryz.zeroValue123
  t141 := Tryz.underlying188
  a141 := Tryz.isAgg188
  z141 := Tryz.sizeOf188
  v141 := Tryz.zeroValue188
  t193 := Tryz.underlying194
  a193 := Tryz.isAgg194
  z193 := Tryz.sizeOf194
  v193 := Tryz.zeroValue194
  t194 := Tryz.underlying195
  a194 := Tryz.isAgg195
  z194 := Tryz.sizeOf195
  v194 := Tryz.zeroValue195
  t196 := Tryz.underlying197
  a196 := Tryz.isAgg197
  z196 := Tryz.sizeOf197
  v196 := Tryz.zeroValue197
  t198 := Tryz.underlying199
  a198 := Tryz.isAgg199
  z198 := Tryz.sizeOf199
  v198 := Tryz.zeroValue199
  t201 := Tryz.underlying202
  a201 := Tryz.isAgg202
  z201 := Tryz.sizeOf202
  v201 := Tryz.zeroValue202
  t226 := Tryz.underlying212
  a226 := Tryz.isAgg212
  z226 := Tryz.sizeOf212
  v226 := Tryz.zeroValue212
  t227 := Tryz.underlying213
  a227 := Tryz.isAgg213
  z227 := Tryz.sizeOf213
  v227 := Tryz.zeroValue213
  g6 := by kernel_rfl }
def lays197_ren : Go.Shelf.Ren := ⟨fun | 197 => 133 | 260 => 143 | n => n, fun | 9 => 9 | 21 => 21 | 3 => 3 | 4 => 4 | 5 => 5 | 105 => 90 | 119 => 180 | 0 => 0 | 46 => 97 | 139 => 191 | 138 => 190 | n => n, fun | 3 => 6 | 4 => 7 | n => n⟩
theorem lays197 : Go.Proofs.Lays.n197 Tryz.prog lays197_ren := {
  mixed := by kernel_rfl
  f197 := Tryz.func133.trans (congrArg some (by kernel_rfl))
  f260 := Tryz.func143.trans (congrArg some (by kernel_rfl))
  t0 := Tryz.underlying0
  a0 := Tryz.isAgg0
  z0 := Tryz.sizeOf0
  v0 := Tryz.zeroValue0
  t3 := Tryz.underlying3
  a3 := Tryz.isAgg3
  z3 := Tryz.sizeOf3
  v3 := Tryz.zeroValue3
  t4 := Tryz.underlying4
  a4 := Tryz.isAgg4
  z4 := Tryz.sizeOf4
  v4 := Tryz.zeroValue4
  t5 := Tryz.underlying5
  a5 := Tryz.isAgg5
  z5 := Tryz.sizeOf5
  v5 := Tryz.zeroValue5
  t9 := Tryz.underlying9
  a9 := Tryz.isAgg9
  z9 := Tryz.sizeOf9
  v9 := Tryz.zeroValue9
  t21 := Tryz.underlying21
  a21 := Tryz.isAgg21
  z21 := Tryz.sizeOf21
  v21 := Tryz.zeroValue21
  t46 := Tryz.underlying97
  a46 := Tryz.isAgg97
  z46 := Tryz.sizeOf97
  v46 := Tryz.zeroValue97
  t105 := Tryz.underlying90
  a105 := Tryz.isAgg90
  z105 := Tryz.sizeOf90
  v105 := Tryz.zeroValue90
  t119 := Tryz.underlying180
  a119 := Tryz.isAgg180
  z119 := Tryz.sizeOf180
  t138 := Tryz.underlying190
  a138 := Tryz.isAgg190
  z138 := Tryz.sizeOf190
  v138 := Tryz.zeroValue190
  t139 := Tryz.underlying191
  a139 := Tryz.isAgg191
  z139 := Tryz.sizeOf191
  v139 := Tryz.zeroValue191
  g3 := by kernel_rfl
  g4 := by kernel_rfl }
def lays143_ren : Go.Shelf.Ren := ⟨fun | 143 => 131 | 219 => 142 | 217 => 149 | 225 => 150 | 224 => 151 | 267 => 152 | 266 => 162 | 314 => 163 | n => n, fun | 9 => 9 | 3 => 3 | 4 => 4 | 5 => 5 | 46 => 97 | 146 => 210 | 51 => 123 | n => n, fun | 1 => 4 | n => n⟩
theorem lays143 : Go.Proofs.Lays.n143 Tryz.prog lays143_ren := {
  mixed := by kernel_rfl
  f143 := Tryz.func131.trans (congrArg some (by kernel_rfl))
  f217 := Tryz.func149.trans (congrArg some (by kernel_rfl))
  f219 := Tryz.func142.trans (congrArg some (by kernel_rfl))
  f224 := Tryz.func151.trans (congrArg some (by kernel_rfl))
  f225 := Tryz.func150.trans (congrArg some (by kernel_rfl))
  f266 := Tryz.func162.trans (congrArg some (by kernel_rfl))
  f267 := Tryz.func152.trans (congrArg some (by kernel_rfl))
  f314 := Tryz.func163.trans (congrArg some (by kernel_rfl))
  t3 := Tryz.underlying3
  a3 := Tryz.isAgg3
  z3 := Tryz.sizeOf3
  v3 := Tryz.zeroValue3
  t4 := Tryz.underlying4
  a4 := Tryz.isAgg4
  z4 := Tryz.sizeOf4
  v4 := Tryz.zeroValue4
  t5 := Tryz.underlying5
  a5 := Tryz.isAgg5
  z5 := Tryz.sizeOf5
  v5 := Tryz.zeroValue5
  t9 := Tryz.underlying9
  a9 := Tryz.isAgg9
  z9 := Tryz.sizeOf9
  v9 := Tryz.zeroValue9
  t46 := Tryz.underlying97
  a46 := Tryz.isAgg97
  z46 := Tryz.sizeOf97
  v46 := Tryz.zeroValue97
  t51 := Tryz.underlying123
  a51 := Tryz.isAgg123
  z51 := Tryz.sizeOf123
  v51 := Tryz.zeroValue123
  t146 := Tryz.underlying210
  a146 := Tryz.isAgg210
  z146 := Tryz.sizeOf210
  v146 := Tryz.zeroValue210
  g1 := by kernel_rfl }
open Go.RowKit Go.Lib in
theorem strings_TrimSpace_any (s : ByteArray) (w : World) (hs : s.size ≤ 9223372036854775807) (htab : Lib.TabIs Tryz.prog w "strings.asciiSpace" .u8 Lib.asciiSpaceTab) (hU8 : Lib.Utf8Tabs 6 7 w) (hWS : Lib.WhiteTab 5 w) :
    Calls Tryz.prog 127 #[.string s] w fun e w' => e = .returned (.string ⟨(Lib.trimSpaceD s.data.toList).toArray⟩) ∧ Below w.heap.size w w' := Any.strings_TrimSpace_any lays163 space_extra s w hs htab hU8 hWS
open Go.RowKit Go.Lib in
theorem strings_Cut (s sep : ByteArray) (m : Int) (w : World) (hs : s.size < 4294967281) (hm : w.cell? ⟨4, 0, none⟩ = some (.int .i64 m)) :
    Calls Tryz.prog 126 #[.string s, .string sep] w fun e w' => e = .returned (.tuple #[.string ⟨(Lib.cut s.data.toList sep.data.toList).1.toArray⟩, .string ⟨(Lib.cut s.data.toList sep.data.toList).2.1.toArray⟩, .bool (Lib.cut s.data.toList sep.data.toList).2.2]) ∧ ∃ n, w' = w.drewN n := Any.strings_Cut lays145 s sep m w hs hm
open Go.RowKit Go.Lib in
theorem strings_Count_one (s : ByteArray) (c : UInt8) (w : World) :
    Calls Tryz.prog 112 #[.string s, .string ⟨#[c]⟩] w fun e w' => e = .returned (.int .i64 (Lib.countByte s.data.toList c)) ∧ w' = w := Any.strings_Count_one lays138 s c w
open Go.RowKit Go.Lib in
theorem unicode_IsSpace_any (r : Int) (w : World) (hlo : -2147483648 ≤ r) (hhi : r ≤ 2147483647) (hW : Lib.WhiteTab 5 w) :
    Calls Tryz.prog 134 #[.int .i32 r] w fun e w' => e = .returned (.bool (Lib.isSpaceZ r)) ∧ Below w.heap.size w w' := Any.unicode_IsSpace_any lays199 r w hlo hhi hW
open Go.RowKit Go.Lib in
theorem utf8_DecodeRuneInString (s : ByteArray) (w : World) (hT : Lib.Utf8Tabs 6 7 w) :
    Calls Tryz.prog 133 #[.string s] w fun e w' => e = .returned (.tuple #[.int .i32 (Lib.decodeGo s).1, .int .i64 (Lib.decodeGo s).2]) ∧ Below w.heap.size w w' := Any.utf8_DecodeRuneInString lays197 s w hT
open Go.RowKit Go.Lib in
theorem strings_Index_one (s : ByteArray) (c : UInt8) (w : World) :
    Calls Tryz.prog 131 #[.string s, .string ⟨#[c]⟩] w fun e w' => e = .returned (.int .i64 (Lib.indexByte s.data.toList c)) ∧ w' = w := Any.strings_Index_one lays143 s c w

/-- The library's tables are as they are laid. -/
def Tz (w : World) : Prop := Lib.TabIs Tryz.prog w "strings.asciiSpace" .u8 Lib.asciiSpaceTab ∧ Lib.Utf8Tabs 6 7 w ∧ Lib.WhiteTab 5 w ∧ ∃ m, w.cell? ⟨4, 0, none⟩ = some (.int .i64 m)
theorem gSp_is : Tryz.prog.globalNamed "strings.asciiSpace" = some 3 := by kernel_rfl
theorem Tz.bel {w w' : World} (h : Tz w) (hb : Bel w w') : Tz w' := by
  obtain ⟨h1, h2, h3, m, h4⟩ := h
  refine ⟨?_, Utf8Tabs_below h2 hb, WhiteTab_below h3 hb, m, (Below.cell hb (p := ⟨4, 0, none⟩) (cell_block h4)).trans h4⟩
  have hg := gSp_is
  unfold Lib.TabIs World.var? at h1 ⊢
  rw [hg] at h1 ⊢
  simp only [Option.bind_some] at h1 ⊢
  have hlt : 3 < w.heap.size := by
    rcases Nat.lt_or_ge 3 w.heap.size with h | h
    · exact h
    · rw [Array.getElem?_eq_none h] at h1
      cases h1
  rw [hb.block 3 hlt]
  exact h1
end Go.Proofs.YtphnahabonfmmaaGreatDoor.U
