/- Sets and escapes, as plain lists of numbers: the escapes of chapter 8, the least one of a side and a set. No program is named here. -/
import Derived.Lib.Hide
namespace Go.Proofs.YthdggdjaicfapaaDoor.U
set_option linter.unusedVariables false

/-- An escape's bytes, its side, its set. -/
abbrev Esc := List Int × Int × Int
def escs : List Esc := [([27, 40, 66], 0, 1), ([27, 44, 66], 0, 1), ([27, 41, 66], 1, 1), ([27, 45, 66], 1, 1),
  ([27, 40, 33, 69], 0, 2), ([27, 44, 33, 69], 0, 2), ([27, 41, 33, 69], 1, 2), ([27, 45, 33, 69], 1, 2),
  ([27, 40, 83], 0, 3), ([27, 44, 83], 0, 3), ([27, 41, 83], 1, 3), ([27, 45, 83], 1, 3),
  ([27, 40, 50], 0, 4), ([27, 44, 50], 0, 4), ([27, 41, 50], 1, 4), ([27, 45, 50], 1, 4),
  ([27, 40, 51], 0, 5), ([27, 44, 51], 0, 5), ([27, 41, 51], 1, 5), ([27, 45, 51], 1, 5),
  ([27, 40, 52], 0, 6), ([27, 44, 52], 0, 6), ([27, 41, 52], 1, 6), ([27, 45, 52], 1, 6),
  ([27, 40, 78], 0, 7), ([27, 44, 78], 0, 7), ([27, 41, 78], 1, 7), ([27, 45, 78], 1, 7),
  ([27, 40, 81], 0, 8), ([27, 44, 81], 0, 8), ([27, 41, 81], 1, 8), ([27, 45, 81], 1, 8),
  ([27, 36, 49], 0, 9), ([27, 36, 44, 49], 0, 9), ([27, 36, 41, 49], 1, 9), ([27, 36, 45, 49], 1, 9),
  ([27, 98], 0, 10), ([27, 112], 0, 11), ([27, 103], 0, 12), ([27, 115], 0, 1)]
theorem escs_len : escs.length = 40 := by decide
/-- The sets' last bytes. -/
def lastT : List (List Int) := [[], [66], [33, 69], [83], [50], [51], [52], [78], [81], [49], [98], [112], [103]]
def lastB (set : Int) : Int := (lastT.getD set.toNat []).getLastD 0

def headL (side set : Int) : List Int :=
  if 10 ≤ set ∧ set ≤ 12 then [] else if set = 9 ∧ side = 0 then [36] else if set = 9 then [36, 41] else if side = 0 then [40] else [41]
/-- A set that has this side. -/
def Valid (side set : Int) : Prop := (side = 0 ∨ side = 1) ∧ 1 ≤ set ∧ set ≤ 12 ∧ (10 ≤ set → side = 0)
instance (side set : Int) : Decidable (Valid side set) := by unfold Valid; infer_instance
def desL (side set : Int) : List Int := if side = 0 ∧ set = 1 then [27, 115] else 27 :: headL side set ++ lastT.getD set.toNat []

/-- The shorter one is less, of those as long the one with the lesser byte first. -/
def lexB : List Int → List Int → Bool
  | x :: xs, y :: ys => if x = y then lexB xs ys else decide (x < y)
  | _, _ => false
def lessB (xs ys : List Int) : Bool := if xs.length = ys.length then lexB xs ys else decide (xs.length < ys.length)

/-- The least of the escapes that were looked at. -/
def better (side set : Int) (best : Option (List Int)) (e : Esc) : Option (List Int) :=
  if e.2.1 = side ∧ e.2.2 = set then
    match best with
    | none => some e.1
    | some b => if lessB e.1 b = true then some e.1 else some b
  else best
def bestOf (side set : Int) (l : List Esc) : Option (List Int) := l.foldl (better side set) none
theorem bestOf_next {side set : Int} {k : Nat} {e : Esc} (h : escs[k]? = some e) : bestOf side set (escs.take (k + 1)) = better side set (bestOf side set (escs.take k)) e := by
  unfold bestOf
  rw [List.take_add_one, h, List.foldl_append]
  rfl

theorem escs_at {k : Nat} (h : k < 40) : ∃ e, escs[k]? = some e := ⟨escs[k]'(by rw [escs_len]; exact h), by simp⟩
theorem escs_ok : ∀ e ∈ escs, (∀ x ∈ e.1, 0 ≤ x ∧ x < 256) ∧ 2 ≤ e.1.length ∧ e.1.length ≤ 4 ∧ Valid e.2.1 e.2.2 ∧ lessB e.1 (desL e.2.1 e.2.2) = false := by decide
theorem best_none {side set : Int} (h : ¬ Valid side set) : ∀ l : List Esc, (∀ e ∈ l, e ∈ escs) → ∀ b, l.foldl (better side set) b = b
  | [], _, b => rfl
  | e :: l, hl, b => by
    rw [List.foldl_cons, best_none h l (fun e he => hl e (by simp [he]))]
    unfold better
    rw [if_neg]
    rintro ⟨h1, h2⟩
    have := (escs_ok e (hl e (by simp))).2.2.2.1
    rw [h1, h2] at this
    exact h this
theorem bestOf_none {side set : Int} (h : ¬ Valid side set) : bestOf side set escs = none := best_none h _ (fun _ he => he) _

/-- The sets and sides that there are, one by one. -/
def pairsL : List (Int × Int) := [(0, 1), (0, 2), (0, 3), (0, 4), (0, 5), (0, 6), (0, 7), (0, 8), (0, 9), (0, 10), (0, 11), (0, 12), (1, 1), (1, 2), (1, 3), (1, 4), (1, 5), (1, 6), (1, 7), (1, 8), (1, 9)]
theorem valid_mem {side set : Int} (h : Valid side set) : (side, set) ∈ pairsL := by
  obtain ⟨h0, h1, h2, h3⟩ := h
  have : set = 1 ∨ set = 2 ∨ set = 3 ∨ set = 4 ∨ set = 5 ∨ set = 6 ∨ set = 7 ∨ set = 8 ∨ set = 9 ∨ set = 10 ∨ set = 11 ∨ set = 12 := by omega
  rcases h0 with rfl | rfl
  · rcases this with rfl | rfl | rfl | rfl | rfl | rfl | rfl | rfl | rfl | rfl | rfl | rfl <;> decide
  · have : set = 1 ∨ set = 2 ∨ set = 3 ∨ set = 4 ∨ set = 5 ∨ set = 6 ∨ set = 7 ∨ set = 8 ∨ set = 9 := by omega
    rcases this with rfl | rfl | rfl | rfl | rfl | rfl | rfl | rfl | rfl <;> decide
/-- The place of the least escape among all. -/
def placeOf (p : Int × Int) : Nat := if p = (0, 1) then 39 else if p.2 ≤ 8 then ((p.2 - 1) * 4 + 2 * p.1).toNat else if p.2 = 9 then (32 + 2 * p.1).toNat else (26 + p.2).toNat
theorem pairs_ok : ∀ p ∈ pairsL, bestOf p.1 p.2 escs = some (desL p.1 p.2) ∧ (∀ x ∈ desL p.1 p.2, 0 ≤ x ∧ x < 256) ∧ 2 ≤ (desL p.1 p.2).length ∧ (desL p.1 p.2).length ≤ 4 ∧ (desL p.1 p.2)[0]? = some 27
    ∧ ((desL p.1 p.2).getLast? = some (lastB p.2) ∨ p = (0, 1))
    ∧ escs[placeOf p]? = some (desL p.1 p.2, p.1, p.2) ∧ (∀ e ∈ escs.take (placeOf p), ¬ e.1 <+: desL p.1 p.2) := by decide +kernel
theorem pairs_apart : ∀ p ∈ pairsL, ∀ q ∈ pairsL, desL p.1 p.2 <+: desL q.1 q.2 → p = q := by decide +kernel
theorem heads_ok : ∀ p ∈ pairsL, (∀ x ∈ headL p.1 p.2, 0 ≤ x ∧ x < 256) ∧ (headL p.1 p.2).length ≤ 2 := by decide +kernel
theorem lasts_ok : ∀ l ∈ lastT, (∀ x ∈ l, 0 ≤ x ∧ x < 256) ∧ l.length ≤ 2 := by decide +kernel
theorem lastT_at {set : Int} (h0 : 1 ≤ set) (h1 : set ≤ 12) : ∃ l, lastT[set.toNat]? = some l ∧ lastT.getD set.toNat [] = l ∧ l.getLast? = some (lastB set) ∧ 1 ≤ l.length := by
  have : set = 1 ∨ set = 2 ∨ set = 3 ∨ set = 4 ∨ set = 5 ∨ set = 6 ∨ set = 7 ∨ set = 8 ∨ set = 9 ∨ set = 10 ∨ set = 11 ∨ set = 12 := by omega
  rcases this with rfl | rfl | rfl | rfl | rfl | rfl | rfl | rfl | rfl | rfl | rfl | rfl <;> exact ⟨_, rfl, rfl, by decide, by decide⟩
end Go.Proofs.YthdggdjaicfapaaDoor.U
