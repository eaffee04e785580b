/- Syllables and their parts, as plain numbers. Of no program. -/
import Derived.KernelRfl
namespace Go.Proofs.Ytalabobiaahppaa.U

/-- The syllable of number s: the a-th leading one, the b-th vowel, the t-th trailing one (0: none). -/
def Num (s a b t : Int) : Prop := 0 ≤ a ∧ a < 19 ∧ 0 ≤ b ∧ b < 21 ∧ 0 ≤ t ∧ t < 28 ∧ s = a * 588 + b * 28 + t

theorem num_ex {s : Int} (h0 : 0 ≤ s) (h1 : s < 11172) : Num s (s / 588) (s % 588 / 28) (s % 28) := by
  refine ⟨?_, ?_, ?_, ?_, ?_, ?_, ?_⟩ <;> omega
theorem num_is {s a b t : Int} (h : Num s a b t) : 0 ≤ s ∧ s < 11172 ∧ s / 588 = a ∧ s % 588 / 28 = b ∧ s % 28 = t := by
  obtain ⟨h1, h2, h3, h4, h5, h6, rfl⟩ := h
  refine ⟨?_, ?_, ?_, ?_, ?_⟩ <;> omega

/-- What a character is split into. -/
def parts (r : Int) : List Int :=
  if 44032 ≤ r ∧ r < 55204 then
    if (r - 44032) % 28 = 0 then [4352 + (r - 44032) / 588, 4449 + (r - 44032) % 588 / 28]
    else [4352 + (r - 44032) / 588, 4449 + (r - 44032) % 588 / 28, 4519 + (r - 44032) % 28]
  else []
theorem parts_no {r : Int} (h : r < 44032 ∨ 55204 ≤ r) : parts r = [] := by
  unfold parts; rw [if_neg (by omega)]
theorem parts_two {r : Int} (h0 : 44032 ≤ r) (h1 : r < 55204) (h : (r - 44032) % 28 = 0) : parts r = [4352 + (r - 44032) / 588, 4449 + (r - 44032) % 588 / 28] := by
  unfold parts; rw [if_pos ⟨h0, h1⟩, if_pos h]
theorem parts_three {r : Int} (h0 : 44032 ≤ r) (h1 : r < 55204) (h : 0 < (r - 44032) % 28) : parts r = [4352 + (r - 44032) / 588, 4449 + (r - 44032) % 588 / 28, 4519 + (r - 44032) % 28] := by
  unfold parts; rw [if_pos ⟨h0, h1⟩, if_neg (by omega)]

/-- What two characters are. -/
def isLV (r s : Int) : Prop := 4352 ≤ r ∧ r < 4371 ∧ 4449 ≤ s ∧ s < 4470
def isST (r s : Int) : Prop := 44032 ≤ r ∧ r < 55204 ∧ (r - 44032) % 28 = 0 ∧ 4519 < s ∧ s < 4547
def Joi (r s x : Int) (ok : Bool) : Prop :=
  (isLV r s ∧ ok = true ∧ x = 44032 + (r - 4352) * 588 + (s - 4449) * 28) ∨
  (isST r s ∧ ok = true ∧ x = r + (s - 4519)) ∨
  (¬ isLV r s ∧ ¬ isST r s ∧ ok = false ∧ x = 0)
theorem joi_any (r s : Int) : ∃ x ok, Joi r s x ok := by
  by_cases h1 : isLV r s
  · exact ⟨_, _, .inl ⟨h1, rfl, rfl⟩⟩
  · by_cases h2 : isST r s
    · exact ⟨_, _, .inr (.inl ⟨h2, rfl, rfl⟩)⟩
    · exact ⟨_, _, .inr (.inr ⟨h1, h2, rfl, rfl⟩)⟩

/-- What is joined is split into the first one's parts, or the first one, and the second one. -/
theorem joi_back {r s x : Int} (h : Joi r s x true) :
    parts x = (if parts r = [] then [r] else parts r) ++ [s] := by
  rcases h with ⟨⟨h1, h2, h3, h4⟩, _, rfl⟩ | ⟨⟨h1, h2, h3, h4, h5⟩, _, rfl⟩ | ⟨_, _, h, _⟩
  · rw [parts_no (r := r) (by omega), if_pos rfl, parts_two (by omega) (by omega) (by omega)]
    simp only [List.cons_append, List.nil_append, List.cons.injEq, and_true]
    constructor <;> omega
  · rw [parts_two (r := r) h1 h2 h3, if_neg (by simp), parts_three (by omega) (by omega) (by omega)]
    simp only [List.cons_append, List.nil_append, List.cons.injEq, and_true]
    refine ⟨?_, ?_, ?_⟩ <;> omega
  · cases h

/-- A syllable's parts make it again. -/
theorem two_back {r : Int} (h0 : 44032 ≤ r) (h1 : r < 55204) (h : (r - 44032) % 28 = 0) : Joi (4352 + (r - 44032) / 588) (4449 + (r - 44032) % 588 / 28) r true := by
  refine .inl ⟨⟨?_, ?_, ?_, ?_⟩, rfl, ?_⟩ <;> omega
theorem three_back1 {r : Int} (h0 : 44032 ≤ r) (h1 : r < 55204) : Joi (4352 + (r - 44032) / 588) (4449 + (r - 44032) % 588 / 28) (r - (r - 44032) % 28) true := by
  refine .inl ⟨⟨?_, ?_, ?_, ?_⟩, rfl, ?_⟩ <;> omega
theorem three_back2 {r : Int} (h0 : 44032 ≤ r) (h1 : r < 55204) (h : 0 < (r - 44032) % 28) : Joi (r - (r - 44032) % 28) (4519 + (r - 44032) % 28) r true := by
  refine .inr (.inl ⟨⟨?_, ?_, ?_, ?_, ?_⟩, rfl, ?_⟩) <;> omega
end Go.Proofs.Ytalabobiaahppaa.U
