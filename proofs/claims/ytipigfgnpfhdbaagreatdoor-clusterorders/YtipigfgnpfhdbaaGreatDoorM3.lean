/- The ten runs of eacc: the characters of a text, the codes that follow each other, what stands at each code. Plain mathematics. What eacc.runs answers: ten runs, each with its first code, its text and whether it is one of alternates. The texts are letters, drawn out of the translation; the body is the translation's own, the texts and the places in the Go text struck out. No condition. What eacc.runs and next answer: the ten runs; the number behind another one. No condition. What eacc.runFor answers: of the ten runs the last one that does not begin behind a number. No condition. What a run's 'codes' tells its caller: code by code, each with its character, in order, until it is told to stop. No condition. A range over a run's 'codes': by what its body does in a round; the body may write what is its own. No condition. What eacc.Rune answers of any number: the character that the chapter's runs have for it, or none. No condition. What eacc.Codes answers of any character: the numbers of the chapter's runs that are it, rising, in a new list. No condition. -/
import Derived.WalkKit
import Derived.Lib.OthersKept
import Derived.Test.YtipigfgnpfhdbaaGreatDoorChecked
import Derived.Test.YtipigfgnpfhdbaaGreatDoorM1
import Derived.Deep.WholeRow
import Derived.Laws.CopyOwn
import Derived.Lib.Builder
import Derived.RangeFuncNested
import Derived.RangeFuncBound
import Derived.RangeFuncCalls
import Derived.RangeFuncLeaves
import Derived.Shelf.Abstract
import Derived.Shelf.RegionOpen
import Derived.OwnWalkIn
import Derived.TacticsInMore
import Derived.LoopNIn
import Derived.LoopIn
import Derived.Maps.AppendAt
namespace Go.Proofs.YtipigfgnpfhdbaaGreatDoor.E
open Go.RowKit
set_option linter.unusedVariables false

/-- The characters of a text from a place on. -/
def decs (S : ByteArray) : Nat → Nat → List Int
  | 0, _ => []
  | f + 1, p => if p < S.size then ((Utf8.decode S p).1 : Int) :: decs S f (p + (Utf8.decode S p).2) else []
theorem decs_end (S : ByteArray) (f p : Nat) (h : ¬ p < S.size) : decs S f p = [] := by
  cases f with
  | zero => rfl
  | succ f => simp [decs, h]
theorem decs_at {S : ByteArray} {f p : Nat} (h : p < S.size) : decs S (f + 1) p = ((Utf8.decode S p).1 : Int) :: decs S f (p + (Utf8.decode S p).2) := by simp [decs, h]
theorem width_pos (s : ByteArray) (pos : Nat) (h : pos < s.size) : 1 ≤ (Utf8.decode s pos).2 := by
  by_cases ha : (s[pos]'h).toNat < 128
  · rw [decode_ascii s pos h ha]
    exact Nat.le_refl _
  · exact (decode_high s pos h (by omega)).2

/-- The number behind another one. -/
def nx (c : Int) : Int := if c % 256 = 126 then c + 163 else c + 1
/-- Numbers that follow each other, each with its character. -/
def codesOf : Int → List Int → List (Int × Int)
  | _, [] => []
  | c, r :: l => (c, r) :: codesOf (nx c) l
/-- What stands at a number. -/
def look : List (Int × Int) → Int → Int × Bool
  | [], _ => (0, false)
  | p :: l, n => if p.1 = n then (p.2, true) else look l n
theorem look_miss {l : List (Int × Int)} {n : Int} (h : ∀ p ∈ l, p.1 ≠ n) : look l n = (0, false) := by
  induction l with
  | nil => rfl
  | cons p l ih =>
    rw [look, if_neg (h p (by simp))]
    exact ih fun q hq => h q (by simp [hq])
theorem look_hit {l pre rest : List (Int × Int)} {n r : Int} (h : l = pre ++ (n, r) :: rest) (hp : ∀ p ∈ pre, p.1 ≠ n) : look l n = (r, true) := by
  subst h
  induction pre with
  | nil => simp [look]
  | cons p l ih =>
    rw [List.cons_append, look, if_neg (hp p (by simp))]
    exact ih fun q hq => hp q (by simp [hq])
theorem look_mem {l : List (Int × Int)} {n r : Int} (h : look l n = (r, true)) : (n, r) ∈ l := by
  induction l with
  | nil => simp [look] at h
  | cons p l ih =>
    rw [look] at h
    split at h
    · rename_i hp
      obtain ⟨a, b⟩ := p
      simp only [Prod.mk.injEq, and_true] at h hp
      subst h hp
      simp
    · exact List.mem_cons_of_mem _ (ih h)

/-- The runs' first codes. -/
def firsts : List Int := [2171681, 2171688, 2175009, 2568225, 2568228, 2568237, 3362337, 6890529, 6890785, 6891052]
def alts : List Bool := [false, false, false, true, true, true, true, false, false, false]
/-- The runs' characters. -/
def chars : List (List Int) := [[12288],
  [12289, 12290, 12300, 12301],
  [19968, 19969, 19971, 19976, 19977, 19979, 19978, 19981, 19985, 19988, 19990, 19992, 19993, 20006, 20013, 20024, 20025, 20027, 20035, 20037, 20043, 20045, 20046, 20047, 20054, 20056, 20057, 20061, 20062, 20063, 20083, 20094, 20098, 20102, 20104, 20107, 20108, 20110, 20113, 20114, 20116, 20117, 20123, 20126, 20129, 20132, 20133, 20134, 20136, 20139, 20140, 20141, 20154, 20160, 20161, 20167, 20170, 20171, 20173, 20182, 20184, 20185, 20195, 20196, 20197, 20208, 20210, 20214, 20219, 20225, 20234, 20237, 20241, 20239, 20271, 20276, 20280, 20284, 20301, 20302, 20303, 20309, 20313, 20315, 20316, 20320, 20329, 20339, 20351, 20358, 20363, 20379, 20381, 20415, 20418, 20419, 20420, 20426, 20439, 20445, 20449, 20462, 20491, 20493, 20498, 20505, 20511, 20523, 20540, 20551, 20553, 20559, 20581, 20596, 20598, 20621, 20625, 20633, 20659, 20663, 20687, 20677, 20689, 20736, 20740, 20754, 20778, 20803, 20804, 20805, 20806, 20808, 20809, 20811, 20813, 20818, 20837, 20839, 20840, 20841, 20843, 20844, 20845, 20849, 20853, 20854, 20855, 20856, 20877, 20874, 20908, 20912, 20919, 20934, 20961, 20986, 20992, 20998, 20999, 21009, 21015, 21021, 21028, 21029, 21033, 21040, 21046, 21050, 21051, 21063, 21069, 21083, 21109, 21147, 21151],
  [19968],
  [19976],
  [19992],
  [12300],
  [12353, 12354, 12355, 12356, 12357, 12358, 12359, 12360, 12361, 12362, 12363, 12364, 12365, 12366, 12367, 12368, 12369, 12370, 12371, 12372, 12373, 12374, 12375, 12376, 12377, 12378, 12379, 12380, 12381, 12382, 12383, 12384, 12385, 12386, 12387, 12388, 12389, 12390, 12391, 12392, 12393, 12394, 12395, 12396, 12397, 12398, 12399, 12400, 12401, 12402, 12403, 12404, 12405, 12406, 12407, 12408, 12409, 12410, 12411, 12412, 12413, 12414, 12415, 12416, 12417, 12418, 12419, 12420, 12421, 12422, 12423, 12424, 12425, 12426, 12427, 12428, 12429, 12430, 12431, 12432, 12433, 12434, 12435],
  [12449, 12450, 12451, 12452, 12453, 12454, 12455, 12456, 12457, 12458, 12459, 12460, 12461, 12462, 12463, 12464, 12465, 12466, 12467, 12468, 12469, 12470, 12471, 12472, 12473, 12474, 12475, 12476, 12477, 12478, 12479, 12480, 12481, 12482, 12483, 12484, 12485, 12486, 12487, 12488, 12489, 12490, 12491, 12492, 12493, 12494, 12495, 12496, 12497, 12498, 12499, 12500, 12501, 12502, 12503, 12504, 12505, 12506, 12507, 12508, 12509, 12510, 12511, 12512, 12513, 12514, 12515, 12516, 12517, 12518, 12519, 12520, 12521, 12522, 12523, 12524, 12525, 12526, 12527, 12528, 12529, 12530, 12531, 12532, 12533, 12534],
  [12540]]
/-- The runs' characters, byte by byte. -/
def texts : List (List UInt8) := [[227, 128, 128],
  [227, 128, 129, 227, 128, 130, 227, 128, 140, 227, 128, 141],
  [228, 184, 128, 228, 184, 129, 228, 184, 131, 228, 184, 136, 228, 184, 137, 228, 184, 139, 228, 184, 138, 228, 184, 141, 228, 184, 145, 228, 184, 148, 228, 184, 150, 228, 184, 152, 228, 184, 153, 228, 184, 166, 228, 184, 173, 228, 184, 184, 228, 184, 185, 228, 184, 187, 228, 185, 131, 228, 185, 133, 228, 185, 139, 228, 185, 141, 228, 185, 142, 228, 185, 143, 228, 185, 150, 228, 185, 152, 228, 185, 153, 228, 185, 157, 228, 185, 158, 228, 185, 159, 228, 185, 179, 228, 185, 190, 228, 186, 130, 228, 186, 134, 228, 186, 136, 228, 186, 139, 228, 186, 140, 228, 186, 142, 228, 186, 145, 228, 186, 146, 228, 186, 148, 228, 186, 149, 228, 186, 155, 228, 186, 158, 228, 186, 161, 228, 186, 164, 228, 186, 165, 228, 186, 166, 228, 186, 168, 228, 186, 171, 228, 186, 172, 228, 186, 173, 228, 186, 186, 228, 187, 128, 228, 187, 129, 228, 187, 135, 228, 187, 138, 228, 187, 139, 228, 187, 141, 228, 187, 150, 228, 187, 152, 228, 187, 153, 228, 187, 163, 228, 187, 164, 228, 187, 165, 228, 187, 176, 228, 187, 178, 228, 187, 182, 228, 187, 187, 228, 188, 129, 228, 188, 138, 228, 188, 141, 228, 188, 145, 228, 188, 143, 228, 188, 175, 228, 188, 180, 228, 188, 184, 228, 188, 188, 228, 189, 141, 228, 189, 142, 228, 189, 143, 228, 189, 149, 228, 189, 153, 228, 189, 155, 228, 189, 156, 228, 189, 160, 228, 189, 169, 228, 189, 179, 228, 189, 191, 228, 190, 134, 228, 190, 139, 228, 190, 155, 228, 190, 157, 228, 190, 191, 228, 191, 130, 228, 191, 131, 228, 191, 132, 228, 191, 138, 228, 191, 151, 228, 191, 157, 228, 191, 161, 228, 191, 174, 229, 128, 139, 229, 128, 141, 229, 128, 146, 229, 128, 153, 229, 128, 159, 229, 128, 171, 229, 128, 188, 229, 129, 135, 229, 129, 137, 229, 129, 143, 229, 129, 165, 229, 129, 180, 229, 129, 182, 229, 130, 141, 229, 130, 145, 229, 130, 153, 229, 130, 179, 229, 130, 183, 229, 131, 143, 229, 131, 133, 229, 131, 145, 229, 132, 128, 229, 132, 132, 229, 132, 146, 229, 132, 170, 229, 133, 131, 229, 133, 132, 229, 133, 133, 229, 133, 134, 229, 133, 136, 229, 133, 137, 229, 133, 139, 229, 133, 141, 229, 133, 146, 229, 133, 165, 229, 133, 167, 229, 133, 168, 229, 133, 169, 229, 133, 171, 229, 133, 172, 229, 133, 173, 229, 133, 177, 229, 133, 181, 229, 133, 182, 229, 133, 183, 229, 133, 184, 229, 134, 141, 229, 134, 138, 229, 134, 172, 229, 134, 176, 229, 134, 183, 229, 135, 134, 229, 135, 161, 229, 135, 186, 229, 136, 128, 229, 136, 134, 229, 136, 135, 229, 136, 145, 229, 136, 151, 229, 136, 157, 229, 136, 164, 229, 136, 165, 229, 136, 169, 229, 136, 176, 229, 136, 182, 229, 136, 186, 229, 136, 187, 229, 137, 135, 229, 137, 141, 229, 137, 155, 229, 137, 181, 229, 138, 155, 229, 138, 159],
  [228, 184, 128],
  [228, 184, 136],
  [228, 184, 152],
  [227, 128, 140],
  [227, 129, 129, 227, 129, 130, 227, 129, 131, 227, 129, 132, 227, 129, 133, 227, 129, 134, 227, 129, 135, 227, 129, 136, 227, 129, 137, 227, 129, 138, 227, 129, 139, 227, 129, 140, 227, 129, 141, 227, 129, 142, 227, 129, 143, 227, 129, 144, 227, 129, 145, 227, 129, 146, 227, 129, 147, 227, 129, 148, 227, 129, 149, 227, 129, 150, 227, 129, 151, 227, 129, 152, 227, 129, 153, 227, 129, 154, 227, 129, 155, 227, 129, 156, 227, 129, 157, 227, 129, 158, 227, 129, 159, 227, 129, 160, 227, 129, 161, 227, 129, 162, 227, 129, 163, 227, 129, 164, 227, 129, 165, 227, 129, 166, 227, 129, 167, 227, 129, 168, 227, 129, 169, 227, 129, 170, 227, 129, 171, 227, 129, 172, 227, 129, 173, 227, 129, 174, 227, 129, 175, 227, 129, 176, 227, 129, 177, 227, 129, 178, 227, 129, 179, 227, 129, 180, 227, 129, 181, 227, 129, 182, 227, 129, 183, 227, 129, 184, 227, 129, 185, 227, 129, 186, 227, 129, 187, 227, 129, 188, 227, 129, 189, 227, 129, 190, 227, 129, 191, 227, 130, 128, 227, 130, 129, 227, 130, 130, 227, 130, 131, 227, 130, 132, 227, 130, 133, 227, 130, 134, 227, 130, 135, 227, 130, 136, 227, 130, 137, 227, 130, 138, 227, 130, 139, 227, 130, 140, 227, 130, 141, 227, 130, 142, 227, 130, 143, 227, 130, 144, 227, 130, 145, 227, 130, 146, 227, 130, 147],
  [227, 130, 161, 227, 130, 162, 227, 130, 163, 227, 130, 164, 227, 130, 165, 227, 130, 166, 227, 130, 167, 227, 130, 168, 227, 130, 169, 227, 130, 170, 227, 130, 171, 227, 130, 172, 227, 130, 173, 227, 130, 174, 227, 130, 175, 227, 130, 176, 227, 130, 177, 227, 130, 178, 227, 130, 179, 227, 130, 180, 227, 130, 181, 227, 130, 182, 227, 130, 183, 227, 130, 184, 227, 130, 185, 227, 130, 186, 227, 130, 187, 227, 130, 188, 227, 130, 189, 227, 130, 190, 227, 130, 191, 227, 131, 128, 227, 131, 129, 227, 131, 130, 227, 131, 131, 227, 131, 132, 227, 131, 133, 227, 131, 134, 227, 131, 135, 227, 131, 136, 227, 131, 137, 227, 131, 138, 227, 131, 139, 227, 131, 140, 227, 131, 141, 227, 131, 142, 227, 131, 143, 227, 131, 144, 227, 131, 145, 227, 131, 146, 227, 131, 147, 227, 131, 148, 227, 131, 149, 227, 131, 150, 227, 131, 151, 227, 131, 152, 227, 131, 153, 227, 131, 154, 227, 131, 155, 227, 131, 156, 227, 131, 157, 227, 131, 158, 227, 131, 159, 227, 131, 160, 227, 131, 161, 227, 131, 162, 227, 131, 163, 227, 131, 164, 227, 131, 165, 227, 131, 166, 227, 131, 167, 227, 131, 168, 227, 131, 169, 227, 131, 170, 227, 131, 171, 227, 131, 172, 227, 131, 173, 227, 131, 174, 227, 131, 175, 227, 131, 176, 227, 131, 177, 227, 131, 178, 227, 131, 179, 227, 131, 180, 227, 131, 181, 227, 131, 182],
  [227, 131, 188]]
def fst (k : Nat) : Int := firsts.getD k 0
def alt (k : Nat) : Bool := alts.getD k false
def chs (k : Nat) : List Int := chars.getD k []
def txt (k : Nat) : List UInt8 := texts.getD k []
/-- A run's codes, each with its character. -/
def tab (k : Nat) : List (Int × Int) := codesOf (fst k) (chs k)
/-- Of the first k runs the last one that does not begin behind n. -/
def best (n : Int) : Nat → Option Nat
  | 0 => none
  | k + 1 => if fst k ≤ n then some k else best n k
theorem best_lt {n : Int} {k j : Nat} (h : best n k = some j) : j < k := by
  induction k with
  | zero => simp [best] at h
  | succ k ih =>
    rw [best] at h
    split at h
    · cases h
      omega
    · have := ih h
      omega
def tabO : Option Nat → List (Int × Int)
  | none => []
  | some k => tab k
/-- The character of a number. -/
def runeL (n : Int) : Int × Bool := look (tabO (best n 10)) n
/-- Those of a list that are the character r: their numbers. -/
def sel (r : Int) (l : List (Int × Int)) : List Int := (l.filter fun p => decide (p.2 = r)).map (·.1)
theorem sel_append (r : Int) (a b : List (Int × Int)) : sel r (a ++ b) = sel r a ++ sel r b := by simp [sel]
/-- All codes of a character of the first k runs. -/
def codesL (r : Int) : Nat → List Int
  | 0 => []
  | k + 1 => codesL r k ++ sel r (tab k)

theorem fst_range : ∀ k, k < 10 → 0 ≤ fst k ∧ fst k ≤ 16777216 := by decide +kernel

/-- Three bytes are one character. -/
def three : List UInt8 → List Int
  | a :: b :: c :: t => (((a.toNat % 16) * 4096 + (b.toNat % 64) * 64 + c.toNat % 64 : Nat) : Int) :: three t
  | _ => []
def ok3 : List UInt8 → Bool
  | [] => true
  | a :: b :: c :: t => decide (a.toNat / 16 = 14) && decide (b.toNat / 64 = 2) && decide (c.toNat / 64 = 2) && decide (2048 ≤ (a.toNat % 16) * 4096 + (b.toNat % 64) * 64 + c.toNat % 64) && Utf8.valid (((a.toNat % 16) * 4096 + (b.toNat % 64) * 64 + c.toNat % 64 : Nat) : Int) && ok3 t
  | _ => false
theorem get_drop {S : ByteArray} {p k : Nat} {l : List UInt8} {x : UInt8} (h : S.data.toList.drop p = l) (hx : l[k]? = some x) : S.get! (p + k) = x ∧ p + k < S.size := by
  have h1 : S.data.toList[p + k]? = some x := by rw [← List.getElem?_drop, h]; exact hx
  obtain ⟨hlt, hv⟩ := List.getElem?_eq_some_iff.1 h1
  have hlt' : p + k < S.data.size := by simpa using hlt
  refine ⟨?_, hlt'⟩
  show S.data[p + k]! = x
  rw [getElem!_pos S.data (p + k) hlt']
  simpa using hv
theorem decode3 {S : ByteArray} {p : Nat} {a b c : UInt8} {t : List UInt8} (h : S.data.toList.drop p = a :: b :: c :: t) (h0 : a.toNat / 16 = 14) (h1 : b.toNat / 64 = 2) (h2 : c.toNat / 64 = 2)
    (h3 : 2048 ≤ (a.toNat % 16) * 4096 + (b.toNat % 64) * 64 + c.toNat % 64) (h4 : Utf8.valid (((a.toNat % 16) * 4096 + (b.toNat % 64) * 64 + c.toNat % 64 : Nat) : Int) = true) :
    Utf8.decode S p = ((a.toNat % 16) * 4096 + (b.toNat % 64) * 64 + c.toNat % 64, 3) := by
  obtain ⟨e0, _⟩ := get_drop (k := 0) h rfl
  obtain ⟨e1, l1⟩ := get_drop (k := 1) h rfl
  obtain ⟨e2, l2⟩ := get_drop (k := 2) h rfl
  have g1 : ¬ a.toNat < 128 := by omega
  have g2 : (a.toNat / 32 == 6) = false := by rw [beq_eq_false_iff_ne]; omega
  have g3 : (a.toNat / 16 == 14) = true := by rw [beq_iff_eq]; exact h0
  have g4 : (b.toNat / 64 == 2) = true := by rw [beq_iff_eq]; exact h1
  have g5 : (c.toNat / 64 == 2) = true := by rw [beq_iff_eq]; exact h2
  simp only [Utf8.decode, e0, e1, e2, g1, g2, g3, g4, g5, l1, l2, if_false, Bool.false_and, Bool.true_and, decide_true, if_true, Bool.false_eq_true, ge_iff_le, h3, h4]
theorem decs_three {S : ByteArray} : ∀ (f : Nat) (T : List UInt8) (p : Nat), S.data.toList.drop p = T → T.length ≤ f → ok3 T = true → decs S f p = three T
  | f, [], p, h, _, _ => by
    refine decs_end S f p ?_
    have h1 : S.data.toList.length ≤ p := List.drop_eq_nil_iff.1 h
    have h2 : S.size = S.data.toList.length := (Array.length_toList (xs := S.data)).symm
    omega
  | 0, _ :: _, p, h, hf, _ => by simp at hf
  | f + 1, [a], p, h, _, ho => by simp [ok3] at ho
  | f + 1, [a, b], p, h, _, ho => by simp [ok3] at ho
  | f + 1, a :: b :: c :: t, p, h, hf, ho => by
    simp only [ok3, Bool.and_eq_true, decide_eq_true_eq] at ho
    obtain ⟨⟨⟨⟨⟨h0, h1⟩, h2⟩, h3⟩, h4⟩, h5⟩ := ho
    have hd := decode3 h h0 h1 h2 h3 h4
    have hlt := (get_drop (k := 0) h rfl).2
    rw [decs_at (by simpa using hlt), hd, three]
    refine congrArg _ (decs_three f t (p + 3) ?_ (by simp at hf; omega) h5)
    rw [← List.drop_drop, h]
    rfl
theorem decs_of {S : ByteArray} {T : List UInt8} {l : List Int} (h : S.data.toList = T) (ho : ok3 T = true) (hl : three T = l) : decs S S.size 0 = l := by
  have h2 : S.size = S.data.toList.length := (Array.length_toList (xs := S.data)).symm
  rw [← hl]
  exact decs_three S.size T 0 (by rw [List.drop_zero]; exact h) (by rw [h2, h]; exact Nat.le_refl _) ho
theorem texts_ok : texts.all ok3 = true := by kernel_rfl
theorem texts_are : texts.map three = chars := by kernel_rfl
theorem texts_short : texts.all (fun l => decide (l.length < 1000)) = true := by kernel_rfl
end Go.Proofs.YtipigfgnpfhdbaaGreatDoor.E
namespace Go.Proofs.YtipigfgnpfhdbaaGreatDoor.E
open Go.RowKit U
set_option linter.unusedVariables false
set_option maxRecDepth 1000000

/-- The constant strings that a body's operations build into values, in their order. -/
def cst : Operand → List ByteArray
  | .const (.string s) => [s]
  | _ => []
def strOf : Op → List ByteArray
  | .build _ fs => fs.toList.flatMap fun x => cst x.2
  | _ => []
def strs : Code → List ByteArray
  | .seq a b => strs a ++ strs b
  | .region _ ops _ => ops.toList.flatMap fun o => strOf o.op
  | _ => []
noncomputable def strAt (f : Func) (i : Nat) : ByteArray := match f.body with
  | some c => (strs c).getD i ByteArray.empty
  | none => ByteArray.empty
/-- The places in the Go text that a body's operations bear, in their order. -/
def poss : Code → List String
  | .seq a b => poss a ++ poss b
  | .region _ ops _ => ops.toList.map (·.pos)
  | _ => []
noncomputable def posAt (f : Func) (i : Nat) : String := match f.body with
  | some c => (poss c).getD i ""
  | none => ""
def code11 (S : Nat → ByteArray) (p : Nat → String) : Code := ((Go.Code.region 0 #[Go.Oper.mk (some 0) (Go.Op.alloc 87) 0 (p 0) #[] none] false).seq ((Go.Code.region 1 #[Go.Oper.mk (some 1) (Go.Op.build 86 #[(0, Go.Operand.const (Go.Value.int Go.IntKind.i64 2171681)), (1, Go.Operand.const (Go.Value.string (S 0)))]) 86 (p 1) #[] none, Go.Oper.mk (some 2) (Go.Op.build 86 #[(0, Go.Operand.const (Go.Value.int Go.IntKind.i64 2171688)), (1, Go.Operand.const (Go.Value.string (S 1)))]) 86 (p 2) #[] none, Go.Oper.mk (some 3) (Go.Op.build 86 #[(0, Go.Operand.const (Go.Value.int Go.IntKind.i64 2175009)), (1, Go.Operand.const (Go.Value.string (S 2)))]) 86 (p 3) #[] none, Go.Oper.mk (some 4) (Go.Op.build 86 #[(0, Go.Operand.const (Go.Value.int Go.IntKind.i64 2568225)), (1, Go.Operand.const (Go.Value.string (S 3))), (2, Go.Operand.const (Go.Value.bool true))]) 86 (p 4) #[] none, Go.Oper.mk (some 5) (Go.Op.build 86 #[(0, Go.Operand.const (Go.Value.int Go.IntKind.i64 2568228)), (1, Go.Operand.const (Go.Value.string (S 4))), (2, Go.Operand.const (Go.Value.bool true))]) 86 (p 5) #[] none, Go.Oper.mk (some 6) (Go.Op.build 86 #[(0, Go.Operand.const (Go.Value.int Go.IntKind.i64 2568237)), (1, Go.Operand.const (Go.Value.string (S 5))), (2, Go.Operand.const (Go.Value.bool true))]) 86 (p 6) #[] none, Go.Oper.mk (some 7) (Go.Op.build 86 #[(0, Go.Operand.const (Go.Value.int Go.IntKind.i64 3362337)), (1, Go.Operand.const (Go.Value.string (S 6))), (2, Go.Operand.const (Go.Value.bool true))]) 86 (p 7) #[] none, Go.Oper.mk (some 8) (Go.Op.build 86 #[(0, Go.Operand.const (Go.Value.int Go.IntKind.i64 6890529)), (1, Go.Operand.const (Go.Value.string (S 7)))]) 86 (p 8) #[] none, Go.Oper.mk (some 9) (Go.Op.build 86 #[(0, Go.Operand.const (Go.Value.int Go.IntKind.i64 6890785)), (1, Go.Operand.const (Go.Value.string (S 8)))]) 86 (p 9) #[] none, Go.Oper.mk (some 10) (Go.Op.build 86 #[(0, Go.Operand.const (Go.Value.int Go.IntKind.i64 6891052)), (1, Go.Operand.const (Go.Value.string (S 9)))]) 86 (p 10) #[] none, Go.Oper.mk (some 11) (Go.Op.build 87 #[(0, Go.Operand.tmp 1), (1, Go.Operand.tmp 2), (2, Go.Operand.tmp 3), (3, Go.Operand.tmp 4), (4, Go.Operand.tmp 5), (5, Go.Operand.tmp 6), (6, Go.Operand.tmp 7), (7, Go.Operand.tmp 8), (8, Go.Operand.tmp 9), (9, Go.Operand.tmp 10)]) 87 (p 11) #[Go.Edge.mk 0 Go.Ground.data, Go.Edge.mk 1 Go.Ground.data, Go.Edge.mk 2 Go.Ground.data, Go.Edge.mk 3 Go.Ground.data, Go.Edge.mk 4 Go.Ground.data, Go.Edge.mk 5 Go.Ground.data, Go.Edge.mk 6 Go.Ground.data, Go.Edge.mk 7 Go.Ground.data, Go.Edge.mk 8 Go.Ground.data, Go.Edge.mk 9 Go.Ground.data] none, Go.Oper.mk none (Go.Op.store 87 (Go.Operand.tmp 0) (Go.Operand.tmp 11)) 0 (p 12) #[Go.Edge.mk 10 Go.Ground.data, Go.Edge.mk 0 Go.Ground.phase, Go.Edge.mk 1 Go.Ground.phase, Go.Edge.mk 2 Go.Ground.phase, Go.Edge.mk 3 Go.Ground.phase, Go.Edge.mk 4 Go.Ground.phase, Go.Edge.mk 5 Go.Ground.phase, Go.Edge.mk 6 Go.Ground.phase, Go.Edge.mk 7 Go.Ground.phase, Go.Edge.mk 8 Go.Ground.phase, Go.Edge.mk 9 Go.Ground.phase, Go.Edge.mk 10 Go.Ground.phase] none] false).seq Go.Code.ret))
theorem body11 : Tryz.f60.body = some (code11 (strAt Tryz.f60) (posAt Tryz.f60)) := by kernel_rfl
theorem str0 : (strAt Tryz.f60 0).data.toList = txt 0 := by kernel_rfl
theorem str1 : (strAt Tryz.f60 1).data.toList = txt 1 := by kernel_rfl
theorem str2 : (strAt Tryz.f60 2).data.toList = txt 2 := by kernel_rfl
theorem str3 : (strAt Tryz.f60 3).data.toList = txt 3 := by kernel_rfl
theorem str4 : (strAt Tryz.f60 4).data.toList = txt 4 := by kernel_rfl
theorem str5 : (strAt Tryz.f60 5).data.toList = txt 5 := by kernel_rfl
theorem str6 : (strAt Tryz.f60 6).data.toList = txt 6 := by kernel_rfl
theorem str7 : (strAt Tryz.f60 7).data.toList = txt 7 := by kernel_rfl
theorem str8 : (strAt Tryz.f60 8).data.toList = txt 8 := by kernel_rfl
theorem str9 : (strAt Tryz.f60 9).data.toList = txt 9 := by kernel_rfl
theorem str_is : ∀ k, k < 10 → (strAt Tryz.f60 k).data.toList = txt k
  | 0, _ => str0
  | 1, _ => str1
  | 2, _ => str2
  | 3, _ => str3
  | 4, _ => str4
  | 5, _ => str5
  | 6, _ => str6
  | 7, _ => str7
  | 8, _ => str8
  | 9, _ => str9
  | k + 10, h => absurd h (by omega)
theorem good {k : Nat} (hk : k < 10) : decs (strAt Tryz.f60 k) (strAt Tryz.f60 k).size 0 = chs k ∧ (strAt Tryz.f60 k).size < 1000 := by
  have h1 := str_is k hk
  have hm : txt k ∈ texts := by
    have hl : k < texts.length := hk
    unfold txt
    rw [List.getD_eq_getElem?_getD, List.getElem?_eq_getElem hl]
    exact List.getElem_mem hl
  have h2 := List.all_eq_true.1 texts_ok _ hm
  have h3 := List.all_eq_true.1 texts_short _ hm
  have h4 : three (txt k) = chs k := by
    have hl : k < texts.length := hk
    unfold chs
    rw [← texts_are]
    unfold txt
    rw [List.getD_eq_getElem?_getD, List.getD_eq_getElem?_getD, List.getElem?_map, List.getElem?_eq_getElem hl]
    rfl
  refine ⟨decs_of h1 h2 h4, ?_⟩
  have h5 : (strAt Tryz.f60 k).size = (strAt Tryz.f60 k).data.toList.length := (Array.length_toList (xs := (strAt Tryz.f60 k).data)).symm
  rw [h5, h1]
  simpa using h3
end Go.Proofs.YtipigfgnpfhdbaaGreatDoor.E
namespace Go.Proofs.YtipigfgnpfhdbaaGreatDoor.E
open Go.RowKit U
set_option linter.unusedVariables false

/-- A run's cells; all runs' cells. -/
def rc (S : Nat → ByteArray) (k : Nat) : Array Value := #[.int .i64 (fst k), .string (S k), .bool (alt k)]
def rcs (S : Nat → ByteArray) : Array Value := #[.int .i64 (fst 0), .string (S 0), .bool (alt 0), .int .i64 (fst 1), .string (S 1), .bool (alt 1), .int .i64 (fst 2), .string (S 2), .bool (alt 2), .int .i64 (fst 3), .string (S 3), .bool (alt 3), .int .i64 (fst 4), .string (S 4), .bool (alt 4), .int .i64 (fst 5), .string (S 5), .bool (alt 5), .int .i64 (fst 6), .string (S 6), .bool (alt 6), .int .i64 (fst 7), .string (S 7), .bool (alt 7), .int .i64 (fst 8), .string (S 8), .bool (alt 8), .int .i64 (fst 9), .string (S 9), .bool (alt 9)]
def zrcs : Array Value := (List.replicate 10 [Value.int .i64 0, .string ⟨#[]⟩, .bool false]).flatten.toArray

section
variable {P : Program} {w : World}
theorem wpl_build {ops : Array Oper} {rest : List Oper} {o : Oper} {a : Act} {Q : Exit → Act → World → Prop} (hg : o.guard = none) (t : TypeId) (parts : Array (Nat × Operand)) (ho : o.op = .build t parts)
    (v : Array Value) (hf : P.built t (parts.map fun (i, x) => (i, a.eval x)).toList = some v) (h : wpList P ops Q rest (a.put o.dst (.agg v)) w) : wpList P ops Q (o :: rest) a w :=
  wpList_build hg t parts ho (by rw [hf]; rfl) (by rw [hf]; exact h)
theorem wpl_store_row {ops : Array Oper} {rest : List Oper} {o : Oper} {a : Act} {Q : Exit → Act → World → Prop} (hgd : o.guard = none) (ty : TypeId) (x y : Operand) (ho : o.op = .store ty x y)
    (g : Nat) (cells : Array Value) (hx : a.eval x = .pointer (some ⟨g, 0, none⟩)) (hy : a.eval y = .agg cells)
    (t : TypeId) (old : Array Value) (w' : World) (hg : w'.heap.size = g) (hw : w = w'.alloc (.cells old t)) (hi : (P.info? ty).map (·.size) = some cells.size)
    (hold : old.size = cells.size) (h1 : cells.all (·.oneCell') = true)
    (h : wpList P ops Q rest (a.put o.dst undef) (w'.alloc (.cells cells t))) : wpList P ops Q (o :: rest) a w := by
  subst hg
  subst hw
  refine wpList_plain hgd fun K hK => ?_
  refine wp_store_row ty x y ho w'.heap.size cells hx hy t old (heap_alloc_last w' _) hi hold h1 ?_
  rw [World.setRow_alloc_new]
  exact hK _ _ h
end

theorem zero35 : (Tryz.prog.info? 87).map (fun i => (i.zero, i.size)) = some (some (.agg zrcs), 30) := by kernel_rfl

theorem results_cell {P : Program} {fn : Func} {p : Tmp} {ty : TypeId} (h : fn.results = #[.cell p ty]) (tmps : Array Value) (w : World) :
    (results fn tmps).run P w = ((asAddr (tmps.getD p undef)).run P w).andThen fun a w₁ => (loadVar ty a).run P w₁ := by
  simp only [results, h]
  simp [Sem.run_bind, Result.andThen]

set_option maxRecDepth 100000 in
set_option maxHeartbeats 2000000 in
theorem runs_is (w : World) : Calls Tryz.prog 60 #[] w fun e w' => e = .returned (.agg (rcs (strAt Tryz.f60))) ∧ Bel w w' := by
  refine calls_of_wp Tryz.func60 body11 ?_
  generalize strAt Tryz.f60 = S
  generalize posAt Tryz.f60 = p
  unfold code11
  simp only [Tryz.ntmps60, List.size_toArray, List.length_nil, Nat.reduceSub, Array.replicate_succ, Array.replicate_zero, List.push_toArray, List.append_toArray, List.nil_append, List.cons_append]
  have hz : (rcs S).size = 30 := rfl
  have h1 : (rcs S).all (·.oneCell') = true := by kernel_rfl
  have HZ := Lib.hid hz
  have H1 := Lib.hid h1
  clear hz h1
  go_wp2_with (first | ((with_reducible (show wpList _ _ _ (Oper.mk _ (Op.build 87 _) _ _ _ _ :: _) _ _)); refine wpl_build rfl 87 _ rfl (rcs S) (by kernel_rfl) ?_; generalize hV : rcs S = V at HZ H1 ⊢; replace hV := Lib.hid hV) | ((with_reducible (show wpList _ _ _ (Oper.mk _ (Op.store 87 _ _) _ _ _ _ :: _) _ _)); refine wpl_store_row rfl 87 _ _ rfl w.heap.size V rfl rfl 87 _ w rfl rfl (by rw [HZ.out]; kernel_rfl) (by rw [HZ.out]; rfl) H1.out ?_) | fail)
  have hld := run_loadVar_new (P := Tryz.prog) w 87 V 10 86 (by kernel_rfl) (by rw [HZ.out]; kernel_rfl)
  refine bodyPost_ret (v := .agg V) ?_ rfl ⟨by rw [hV.out], (Bel.refl w).alloc _⟩
  rw [results_cell rfl]
  simp [asAddr, Result.andThen, hld, Act.put]

/-- The run behind the run k of all runs' cells. -/
theorem rcs_at (S : Nat → ByteArray) : ∀ k, k < 10 → (rcs S).extract (k * 3) (k * 3 + 3) = rc S k := by
  intro k hk
  obtain rfl | rfl | rfl | rfl | rfl | rfl | rfl | rfl | rfl | rfl : k = 0 ∨ k = 1 ∨ k = 2 ∨ k = 3 ∨ k = 4 ∨ k = 5 ∨ k = 6 ∨ k = 7 ∨ k = 8 ∨ k = 9 := by omega
  all_goals rfl

theorem and255 {c : Int} (h0 : 0 ≤ c) (h1 : c < 1099511627776) : bits BinOp.and IntKind.i64 c 255 = c % 256 := by
  obtain ⟨a, rfl⟩ : ∃ a : Nat, c = a := ⟨c.toNat, by omega⟩
  have ha : a < 1099511627776 := by omega
  have e1 : (BitVec.ofInt 64 (a : Int)).toNat = a := by
    rw [BitVec.ofInt_natCast, BitVec.toNat_ofNat]; exact Nat.mod_eq_of_lt (by omega)
  have e2 : (BitVec.ofInt 64 (255 : Int)).toNat = 255 := by decide
  have e3 : a &&& 255 = a % 256 := Nat.and_two_pow_sub_one_eq_mod a 8
  show IntKind.i64.wrap ((BitVec.ofInt 64 (a : Int) &&& BitVec.ofInt 64 (255 : Int)).toNat : Int) = _
  rw [BitVec.toNat_and, e1, e2, e3, IntKind.wrap_i64]
  omega

theorem next_any (c : Int) (h0 : 0 ≤ c) (h1 : c < 1099511627776) (w : World) : Calls Tryz.prog 100 #[.int .i64 c] w fun e w' => e = .returned (.int .i64 (nx c)) ∧ w' = w := by
  have ha := and255 h0 h1
  by_cases h : c % 256 = 126
  · have hb : (bits BinOp.and IntKind.i64 c 255 == 126) = true := by rw [ha, beq_iff_eq]; exact h
    go_enter Tryz.func100, Tryz.ntmps100
    go_wp2
    go_ret
    refine ⟨ret_int ?_, rfl⟩
    rw [nx, if_pos h]
    omega
  · have hb : (bits BinOp.and IntKind.i64 c 255 == 126) = false := by rw [ha, beq_eq_false_iff_ne]; exact h
    go_enter Tryz.func100, Tryz.ntmps100
    go_wp2
    go_ret
    refine ⟨ret_int ?_, rfl⟩
    rw [nx, if_neg h]
end Go.Proofs.YtipigfgnpfhdbaaGreatDoor.E
namespace Go.Proofs.YtipigfgnpfhdbaaGreatDoor.E
open Go.RowKit U
set_option linter.unusedVariables false

/-- The cells of the run that is told. -/
def fc (S : Nat → ByteArray) : Option Nat → Array Value
  | none => #[.int .i64 0, .string ⟨#[]⟩, .bool false]
  | some k => rc S k
theorem fc_is (S : Nat → ByteArray) (o : Option Nat) : ∃ f T b, fc S o = #[.int .i64 f, .string T, .bool b] := by
  cases o with
  | none => exact ⟨_, _, _, rfl⟩
  | some k => exact ⟨_, _, _, rfl⟩

theorem index_at (S : Nat → ByteArray) {k : Nat} (hk : k < 10) (w : World) : (Instr.index 87 (.agg (rcs S)) (.int .i64 k)).run Tryz.prog w = .ok (.agg #[.int .i64 (fst k), .string (S k), .bool (alt k)]) w := by
  have h := rcs_at S k hk
  have h2 : (0 : Int) ≤ k ∧ (k : Int) < 10 := by omega
  have h3 : k * 3 + 3 = 3 + k * 3 := by omega
  unfold Instr.index part
  simp [go_sem, Tryz.isAgg86, Tryz.sizeOf86, Result.andThen, h2, h, rc]
  omega

/-- A row of three cells that is written over cell by cell. -/
theorem three_set {w : World} {g : Nat} {a b c x y z : Value} {t : TypeId} (h : w.heap[g]? = some (.cells #[a, b, c] t (0, 0))) :
    (((w.setCell ⟨g, 0, none⟩ x).setCell ⟨g, 1, none⟩ y).setCell ⟨g, 2, none⟩ z).heap[g]? = some (.cells #[x, y, z] t (0, 0)) := by
  simp [World.setCell, Array.getElem?_modify, h]
theorem three_cells {w : World} {g : Nat} {a b c : Value} {t : TypeId} (h : w.heap[g]? = some (.cells #[a, b, c] t (0, 0))) :
    w.cell? ⟨g, 0, none⟩ = some a ∧ w.cell? ⟨g, 1, none⟩ = some b ∧ w.cell? ⟨g, 2, none⟩ = some c := by
  simp [World.cell?, h]
theorem three_free {w : World} {g : Nat} {a b c : Value} {t : TypeId} (h : w.heap[g]? = some (.cells #[a, b, c] t (0, 0))) :
    w.frozen? ⟨g, 0, none⟩ = false ∧ w.frozen? ⟨g, 1, none⟩ = false ∧ w.frozen? ⟨g, 2, none⟩ = false := by
  simp [World.frozen?, h]

def RelF (S : Nat → ByteArray) (n : Int) (w : World) (i : Value) (wr : World) : Prop :=
  ∃ k : Nat, k ≤ 10 ∧ i = .int .i64 k ∧ wr.heap[w.heap.size]? = some (.cells (fc S (best n k)) 86 (0, 0)) ∧ Bel w wr

set_option maxRecDepth 100000 in
set_option maxHeartbeats 2000000 in
theorem runFor_is (n : Int) (w : World) : Calls Tryz.prog 95 #[.int .i64 n] w fun e w' => e = .returned (.agg (fc (strAt Tryz.f60) (best n 10))) ∧ Bel w w' := by
  have HR := Lib.hid runs_is
  have HI := Lib.hid (fun k (hk : k < 10) w => index_at (strAt Tryz.f60) hk w)
  generalize strAt Tryz.f60 = S at HR HI ⊢
  generalize rcs S = V at HR HI
  go_enter Tryz.func95, Tryz.ntmps95
  go_wp2_with (go_at_call 60; refine (HR.out _).mono ?_; rintro e w2 ⟨rfl, hb⟩)
  have hg0 : w2.heap[w.heap.size]? = some (.cells (fc S (best n 0)) 86 (0, 0)) := (Below.block hb _ (by simp)).trans (heap_alloc_last w _)
  have hb0 : Bel w w2 := ((Bel.refl w).alloc _).trans hb
  have HG0 := Lib.hid hg0
  have HB0 := Lib.hid hb0
  clear hg0 hb0 hb
  go_loopw [6] (fun i wr => RelF S n w i wr) (fun i _ => 10 - (intOf i).toNat)
  case atStart => exact ⟨0, by omega, rfl, HG0.out, HB0.out⟩
  case round =>
    obtain ⟨k, hk, rfl, hg, hB⟩ := hrel
    have HB := Lib.hid hB
    have HG := Lib.hid hg
    have hlt : w.heap.size < wr.heap.size := (Array.getElem?_eq_some_iff.1 hg).1
    clear hB hg
    by_cases hlk : k < 10
    · have hix := fun w => HI.out k hlk w
      have HS := Lib.hid (show rc S k = #[.int .i64 (fst k), .string (S k), .bool (alt k)] from rfl)
      have HN := Lib.hid (show best n (k + 1) = if fst k ≤ n then some k else best n k from rfl)
      obtain ⟨f0, T0, b0, hf0⟩ := fc_is S (best n k)
      have hg := HG.out
      rw [hf0] at hg
      obtain ⟨c0, c1, c2⟩ := three_cells hg
      obtain ⟨z0, z1, z2⟩ := three_free hg
      have H3 := Lib.hid hg
      replace hf0 := Lib.hid hf0
      clear hg
      generalize fst k = f at hix HS HN
      generalize S k = T at hix HS
      generalize alt k = b at hix HS
      by_cases hle : f ≤ n
      · go_wp2
        refine ⟨⟨k + 1, by omega, rfl, ?_, ?_⟩, by simp [intOf]; omega⟩
        · rw [HN.out, if_pos hle]
          show _ = some (Obj.cells (rc S k) 86 (0, 0))
          rw [HS.out]
          refine (Lib.alloc_old _ _ _ ?_).trans (three_set H3.out)
          simpa using hlt
        · refine Bel.alloc ?_ _
          exact ((Below.setCell HB.out (p := ⟨w.heap.size, 0, none⟩) (by simp) _).setCell (p := ⟨w.heap.size, 1, none⟩) (by simp) _).setCell (p := ⟨w.heap.size, 2, none⟩) (by simp) _
      · go_wp2
        refine ⟨⟨k + 1, by omega, rfl, ?_, HB.out.alloc _⟩, by simp [intOf]; omega⟩
        rw [HN.out, if_neg hle]
        exact (Lib.alloc_old _ _ _ hlt).trans HG.out
    · obtain rfl : k = 10 := by omega
      obtain ⟨f0, T0, b0, hf0⟩ := fc_is S (best n 10)
      have hg := HG.out
      rw [hf0] at hg
      obtain ⟨c0, c1, c2⟩ := three_cells hg
      obtain ⟨z0, z1, z2⟩ := three_free hg
      have H3 := Lib.hid hg
      replace hf0 := Lib.hid hf0
      clear hg
      go_wp2
      refine bodyPost_ret (v := .agg #[.int .i64 f0, .string T0, .bool b0]) ?_ rfl ⟨by rw [hf0.out], ?_⟩
      · exact results_cell_row rfl _ _ w.heap.size 86 _ (0, 0) _ rfl (three_set H3.out) Tryz.underlying86 rfl (by kernel_rfl)
      · exact ((Below.setCell HB.out (p := ⟨w.heap.size, 0, none⟩) (by simp) _).setCell (p := ⟨w.heap.size, 1, none⟩) (by simp) _).setCell (p := ⟨w.heap.size, 2, none⟩) (by simp) _
end Go.Proofs.YtipigfgnpfhdbaaGreatDoor.E
namespace Go.Proofs.YtipigfgnpfhdbaaGreatDoor.E
open Go.RowKit Go.Shelf U
set_option linter.unusedVariables false

/-- A string's iterators stand as they stood. -/
def KeptI (W W' : World) : Prop := W.heap.size ≤ W'.heap.size ∧ ∀ (j : Nat) (s : ByteArray) (p : Nat), W.heap[j]? = some (.stringIter s p) → W'.heap[j]? = some (.stringIter s p)

theorem nx_range {c : Int} {p q : Nat} (h0 : 0 ≤ c) (h1 : c ≤ 16777216 + 163 * (p : Int)) (hq : p + 1 ≤ q) : 0 ≤ nx c ∧ nx c ≤ 16777216 + 163 * (q : Int) := by
  unfold nx
  split <;> omega

def RelI (J : List (Int × Int) → World → Prop) (tb : List (Int × Int)) (T : ByteArray) (G : Nat) (i : Value) (wr : World) : Prop :=
  ∃ (pre : List (Int × Int)) (pos fuel : Nat) (c : Int), i = .int .i64 c ∧ 0 ≤ c ∧ c ≤ 16777216 + 163 * (pos : Int) ∧ J pre wr ∧ wr.heap[G]? = some (.stringIter T pos) ∧ tb = pre ++ codesOf c (decs T fuel pos) ∧ T.size ≤ pos + fuel

set_option maxRecDepth 100000 in
set_option maxHeartbeats 2000000 in
theorem codes_in (n l : Nat) (h1 : 1 ≤ n) (f : Int) (T : ByteArray) (b : Bool) (hf : 0 ≤ f ∧ f ≤ 16777216) (hT : T.size < 1000) (tb : List (Int × Int)) (htb : tb = codesOf f (decs T T.size 0)) (Bz : Nat) (J Jx : List (Int × Int) → World → Prop)
    (hJa : ∀ pre W o, J pre W → J pre (W.alloc o))
    (hJi : ∀ pre W G s p p', J pre W → Bz ≤ G → W.heap[G]? = some (.stringIter s p) → J pre (W.iterAt G s p'))
    (hY : ∀ pre x W, J pre W → (∃ rest, tb = pre ++ x :: rest) → YieldAt Fence.wide (n - 1) Tryz.prog l #[.int .i64 x.1, .int .i32 x.2] W fun e W' =>
      (e = .returned (.bool true) ∧ J (pre ++ [x]) W' ∧ KeptI W W') ∨ (e = .returned (.bool false) ∧ Jx (pre ++ [x]) W'))
    (W : World) (hl : l < W.heap.size) (hB : Bz ≤ W.heap.size) (h0 : J [] W) :
    CallsIn Fence.wide n Tryz.prog 61 #[.agg #[.int .i64 f, .string T, .bool b], .func (.yield l) #[] #[]] W fun e W' => (∃ v, e = .returned v) ∧ (J tb W' ∨ ∃ pre, Jx pre W') := by
  have HT := Lib.hid hT
  have HF := Lib.hid hf
  have HTB := Lib.hid htb
  have HJI := Lib.hid hJi
  have HY := Lib.hid hY
  have H2 := Lib.hid (hJa _ _ (.stringIter T 0) (hJa _ _ (.cells #[.int .i64 f, .string T, .bool b] 86) h0))
  have HG := Lib.hid (show Bz ≤ W.heap.size + 1 by omega)
  have HI := Lib.hid (show ((W.alloc (.cells #[.int .i64 f, .string T, .bool b] 86)).alloc (.stringIter T 0)).heap[W.heap.size + 1]? = some (.stringIter T 0) by
    have := heap_alloc_last (W.alloc (.cells #[.int .i64 f, .string T, .bool b] 86)) (.stringIter T 0)
    rwa [World.size_alloc] at this)
  clear hT hf htb hJi hY hJa hB h0 hl
  refine callsIn_of_wp Tryz.func61 rfl trivial ?_ rfl
  simp only [Tryz.ntmps61, List.size_toArray, List.length_cons, List.length_nil, Nat.reduceAdd, Nat.reduceSub, Array.replicate_succ, Array.replicate_zero, List.push_toArray, List.append_toArray, List.nil_append, List.cons_append]
  gi_wp2_with fail
  have H3 := Lib.hid (show RelI J tb T (W.heap.size + 1) (.int .i64 f) ((W.alloc (.cells #[.int .i64 f, .string T, .bool b] 86)).alloc (.stringIter T 0)) from
    ⟨[], 0, T.size, f, rfl, HF.out.1, by have := HF.out.2; omega, H2.out, HI.out, by rw [List.nil_append]; exact HTB.out, by omega⟩)
  clear H2 HI HTB HF
  generalize hGb : W.heap.size + 1 = G at HG H3 ⊢
  gi_loopw [4] (fun i wr => RelI J tb T G i wr) (fun _ wr => T.size - wr.iterPos G)
  case atStart => exact H3.out
  case round =>
    obtain ⟨pre, pos, fuel, c, rfl, c0, c1, hJ, hit, htb, hfu⟩ := hrel
    have HJ := Lib.hid hJ
    have HIT := Lib.hid hit
    have HC := Lib.hid (And.intro c0 c1)
    have HTB := Lib.hid htb
    have HFU := Lib.hid hfu
    clear hJ c0 c1 htb hfu
    by_cases hp : pos < T.size
    · obtain ⟨F, hF⟩ : ∃ F, fuel = F + 1 := ⟨fuel - 1, by have := HFU.out; omega⟩
      obtain ⟨r, wd, hd⟩ : ∃ r wd, Utf8.decode T pos = (r, wd) := ⟨_, _, rfl⟩
      have hwd : 1 ≤ wd := by have := width_pos T pos hp; rw [hd] at this; exact this
      have hds : codesOf c (decs T fuel pos) = (c, (r : Int)) :: codesOf (nx c) (decs T F (pos + wd)) := by
        rw [hF, decs_at hp, hd]
        rfl
      have hnx : ∀ ty, (Instr.next (.pointer (some ⟨G, 0, none⟩)) true ty).run Tryz.prog wr = .ok (.tuple #[.bool true, .int .i64 pos, .int .i32 r]) (wr.iterAt G T (pos + wd)) := fun ty => by
        have := Lib.run_next_any_at (P := Tryz.prog) wr G T pos ty hit hp
        rwa [hd] at this
      have HJ2 := Lib.hid (HJI.out _ _ G T pos (pos + wd) HJ.out HG.out hit)
      have HI2 := Lib.hid (Lib.iterAt_heap wr G T pos (pos + wd) hit)
      have HTB2 := Lib.hid (show tb = (pre ++ [(c, (r : Int))]) ++ codesOf (nx c) (decs T F (pos + wd)) by rw [HTB.out, hds]; simp)
      have HNR := Lib.hid (nx_range (q := pos + wd) HC.out.1 HC.out.2 (by omega))
      have HM := Lib.hid (show T.size - (pos + wd) < T.size - wr.iterPos G by rw [show wr.iterPos G = pos by simp [World.iterPos, hit]]; omega)
      have HFU2 := Lib.hid (show T.size ≤ pos + wd + F by have := HFU.out; omega)
      have HNC := Lib.hid (fun w => next_any c HC.out.1 (by have := HC.out.2; have := HT.out; omega) w)
      obtain ⟨fn, tmps, assign, body, hy, hR⟩ := HY.out pre (c, (r : Int)) _ HJ2.out ⟨_, by rw [HTB.out, hds]⟩
      dsimp only at hy
      have HRo := Lib.hid hR
      clear hR hd hds hwd hp hF
      generalize wr.iterAt G T (pos + wd) = w2 at hnx hy HJ2 HI2 HRo
      gi_wp2_with fail
      refine HRo.out.mono ?_
      rintro e w3 (⟨rfl, hJ3, hk3⟩ | ⟨rfl, hJx3⟩)
      · have HJ3 := Lib.hid hJ3
        have HI3 := Lib.hid (hk3.2 _ _ _ HI2.out)
        clear hJ3 hk3 hy hnx hit
        gi_wp2_with fail
        refine ⟨trivial, ?_⟩
        gi_at_call 100
        refine (callsIn_wide.2 (HNC.out _)).mono ?_
        rintro e w4 ⟨rfl, rfl⟩
        gi_wp2_with fail
        refine ⟨⟨pre ++ [(c, (r : Int))], pos + wd, F, nx c, rfl, HNR.out.1, HNR.out.2, HJ3.out, HI3.out, HTB2.out, HFU2.out⟩, ?_⟩
        have h5 : w4.iterPos G = pos + wd := by simp [World.iterPos, HI3.out]
        rw [h5]
        exact HM.out
      · have HJ4 := Lib.hid hJx3
        clear hJx3 hy hnx hit
        gi_wp2_with fail
        refine bodyPost_ret (results_none rfl _ _ _) rfl ?_
        exact ⟨⟨_, rfl⟩, .inr ⟨_, HJ4.out⟩⟩
    · have hnx : ∀ ty, (Instr.next (.pointer (some ⟨G, 0, none⟩)) true ty).run Tryz.prog wr = _ := fun ty => Lib.run_next_end_at wr G T pos ty hit hp
      have HJ5 := Lib.hid (show J tb wr by
        have h := HTB.out
        rw [decs_end T fuel pos hp] at h
        simp only [codesOf, List.append_nil] at h
        rw [h]
        exact HJ.out)
      gi_wp2_with fail
      go_end0
      exact ⟨⟨_, rfl⟩, .inl HJ5.out⟩
end Go.Proofs.YtipigfgnpfhdbaaGreatDoor.E
namespace Go.Proofs.YtipigfgnpfhdbaaGreatDoor.E
open Go.RowKit Go.Shelf U
set_option linter.unusedVariables false

/-- How a round may be left: it goes on, or it returns; what is no row of cells lies as it lay. -/
def endsR (I : List (Int × Int) → World → Prop) (Ix : World → Prop) (pre : List (Int × Int)) (W : World) : Exit → Act → World → Prop
  | .normal, _, W' => KeepsOthers W W' ∧ I pre W'
  | .ret, _, W' => KeepsOthers W W' ∧ Ix W'
  | _, _, _ => False

theorem range_codes (tb : List (Int × Int)) {P : Program} {m gf : Nat} {g : Operand} {ps : Array Tmp} {assign body : Code} {Q : Exit → Act → World → Prop} {a : Act} {Wz : World} {pb : Array Value}
    (h1 : 1 ≤ m) (hg : a.eval g = .func (.func gf) pb #[]) (eg : ∀ args w, (callFunc gf args).run P w = .ok (.enter gf args) w) (hps : ps.size = 2)
    (I : List (Int × Int) → World → Prop) (Ix : World → Prop)
    (hIp : ∀ pre W o L, I pre W → W.heap[Wz.heap.size + 1]? = some (.loop L) → I pre (W.putObj (Wz.heap.size + 1) o)) (hXp : ∀ W o L, Ix W → W.heap[Wz.heap.size + 1]? = some (.loop L) → Ix (W.putObj (Wz.heap.size + 1) o))
    (hIa : ∀ pre W o, I pre W → I pre (W.alloc o))
    (hIi : ∀ pre W G s p p', I pre W → Wz.heap.size + 2 ≤ G → W.heap[G]? = some (.stringIter s p) → I pre (W.iterAt G s p'))
    (h0 : I [] Wz) (a₁ : Int × Int → Act)
    (hassign : ∀ (l : Nat) (x : Int × Int) (W : World) (K : Act → World → Prop), K (a₁ x) W →
      assign.wpIn (Fence.wide.inRound l) (m - 1 - 1) P (Exit.then K (fun _ _ _ => False)) { tmps := (ps.zip #[.int .i64 x.1, .int .i32 x.2]).foldl (fun t (p, v) => t.setIfInBounds p v) a.tmps, defers := [] } W)
    (hbody : ∀ (l : Nat) (pre : List (Int × Int)) (x : Int × Int) (W : World), I pre W → (∃ rest, tb = pre ++ x :: rest) → body.wpIn (Fence.wide.inRound l) (m - 1 - 1) P (endsR I Ix (pre ++ [x]) W) (a₁ x) W)
    (hit : ∀ (J Jx : List (Int × Int) → World → Prop), (∀ pre W o, J pre W → J pre (W.alloc o)) →
      (∀ pre W G s p p', J pre W → Wz.heap.size + 2 ≤ G → W.heap[G]? = some (.stringIter s p) → J pre (W.iterAt G s p')) →
      (∀ pre x W, J pre W → (∃ rest, tb = pre ++ x :: rest) → YieldAt Fence.wide (m - 1 - 1) P (Wz.heap.size + 1) #[.int .i64 x.1, .int .i32 x.2] W fun e W' =>
        (e = .returned (.bool true) ∧ J (pre ++ [x]) W' ∧ KeptI W W') ∨ (e = .returned (.bool false) ∧ Jx (pre ++ [x]) W')) →
      ∀ W, Wz.heap.size + 1 < W.heap.size → J [] W →
      CallsIn Fence.wide (m - 1) P gf (pb ++ #[.func (.yield (Wz.heap.size + 1)) #[] #[]]) W fun e W' => (∃ v, e = .returned v) ∧ (J tb W' ∨ ∃ pre, Jx pre W'))
    (hdone : ∀ W, I tb W → W.heap[Wz.heap.size]? = some (.deferred (some [])) → Q .normal { a with defers := { target := .collected Wz.heap.size, args := #[] } :: a.defers } W)
    (hstop : ∀ W, Ix W → W.heap[Wz.heap.size]? = some (.deferred (some [])) → Code.ret.wpIn Fence.wide m P Q { a with defers := { target := .collected Wz.heap.size, args := #[] } :: a.defers } W) :
    (Code.rangeFunc g ps assign body).wpIn Fence.wide m P Q a Wz := by
  refine wpIn_rangeFunc fun fn _ => ?_
  let rc : LoopState → Option Code → Loop := fun st pe => { state := st, pending := pe, fn, tmps := a.tmps, params := ps, assign, body, defers := Wz.heap.size }
  let W1 : World := (Wz.alloc (.deferred (some []))).alloc (.loop (rc .ready none))
  have hsz : (Wz.alloc (.deferred (some []))).heap.size = Wz.heap.size + 1 := World.size_alloc _ _
  have hl1 : W1.heap[Wz.heap.size + 1]? = some (.loop (rc .ready none)) := by
    have h := World.alloc_heap_new (Wz.alloc (.deferred (some []))) (.loop (rc .ready none))
    rwa [hsz] at h
  have hd1 : W1.heap[Wz.heap.size]? = some (.deferred (some [])) :=
    (Below.block ((Bel.refl (Wz.alloc (.deferred (some [])))).alloc (.loop (rc .ready none))) _ (by rw [hsz]; omega)).trans (World.alloc_heap_new Wz _)
  have put_d : ∀ (W : World) (o : Obj), W.heap[Wz.heap.size]? = some (.deferred (some [])) → (W.putObj (Wz.heap.size + 1) o).heap[Wz.heap.size]? = some (.deferred (some [])) := fun W o h => (World.putObj_heap_other (by omega)).trans h
  refine ⟨Wz.heap.size + 1, [{ target := .collected Wz.heap.size, args := #[] }], W1, { target := .fn (.func gf) #[], args := pb ++ #[.func (.yield (Wz.heap.size + 1)) #[] #[]] }, W1, gf, pb ++ #[.func (.yield (Wz.heap.size + 1)) #[] #[]], W1, ?_, ?_, fun _ _ => trivial, ?_, fun _ => h1, ?_⟩
  · exact run_enterLoop_outer fn a.tmps ps assign body
  · simp only [resolve, hg]
    simp [go_sem]
  · simp [invoke, go_sem, eg]
  refine (hit (fun pre W => I pre W ∧ W.heap[Wz.heap.size + 1]? = some (.loop (rc .ready none)) ∧ W.heap[Wz.heap.size]? = some (.deferred (some [])))
    (fun _ W => Ix W ∧ W.heap[Wz.heap.size + 1]? = some (.loop (rc .done (some .ret))) ∧ W.heap[Wz.heap.size]? = some (.deferred (some [])))
    (fun pre W o h => ⟨hIa _ _ _ h.1, (Lib.alloc_old W o _ (Array.getElem?_eq_some_iff.1 h.2.1).1).trans h.2.1, (Lib.alloc_old W o _ (Array.getElem?_eq_some_iff.1 h.2.2).1).trans h.2.2⟩)
    (fun pre W G s p p' h hG hs => ⟨hIi _ _ _ _ _ _ h.1 hG hs, (Lib.iterAt_other W G _ s p' (by omega)).trans h.2.1, (Lib.iterAt_other W G _ s p' (by omega)).trans h.2.2⟩)
    ?_ W1 (Array.getElem?_eq_some_iff.1 hl1).1 ⟨hIa _ _ _ (hIa _ _ _ h0), hl1, hd1⟩).mono ?_
  · rintro pre x W ⟨hi, hl, hd⟩ hx
    have hlt : Wz.heap.size + 1 < W.heap.size := (Array.getElem?_eq_some_iff.1 hl).1
    refine ⟨fn, _, assign, body, run_yield hl hps.symm, roundIn_of_wpIn trivial (hassign _ x W _ ⟨_, run_beginRound hl rfl, ?_⟩)⟩
    have hl2 : (W.putObj (Wz.heap.size + 1) (.loop { rc .ready none with state := .busy })).heap[Wz.heap.size + 1]? = some (.loop { rc .ready none with state := .busy }) := World.putObj_heap_same hlt
    have hd2 := put_d W (.loop { rc .ready none with state := .busy }) hd
    refine wpIn_mono (hbody _ pre x _ (hIp _ _ _ _ hi hl) hx) ?_
    rintro e a3 W3 hp
    cases e with
    | normal =>
      obtain ⟨hk, hi3⟩ := hp
      have hl3 := hk.same _ _ hl2 rfl
      have hd3 := hk.same _ _ hd2 rfl
      have hlt3 : Wz.heap.size + 1 < W3.heap.size := (Array.getElem?_eq_some_iff.1 hl3).1
      refine ⟨_, _, run_endRound none hl3, .inl ⟨rfl, ⟨hIp _ _ _ _ hi3 hl3, World.putObj_heap_same hlt3, put_d _ _ hd3⟩, ?_, ?_⟩⟩
      · have h := hk.size
        rw [World.putObj_size] at h ⊢
        exact h
      · intro j s p hj
        have hjl : j ≠ Wz.heap.size + 1 := fun e => by rw [e, hl] at hj; cases hj
        exact (World.putObj_heap_other hjl).trans (hk.same _ _ ((World.putObj_heap_other hjl).trans hj) rfl)
    | ret =>
      obtain ⟨hk, hx3⟩ := hp
      have hl3 := hk.same _ _ hl2 rfl
      have hd3 := hk.same _ _ hd2 rfl
      exact ⟨_, _, run_endRound (some .ret) hl3, .inr ⟨rfl, hXp _ _ _ hx3 hl3, World.putObj_heap_same (Array.getElem?_eq_some_iff.1 hl3).1, put_d _ _ hd3⟩⟩
    | exit id => exact hp.elim
    | goto t => exact hp.elim
    | panic ch => exact hp.elim
    | outgrown => exact hp.elim
  · rintro e W2 ⟨⟨v, rfl⟩, (⟨hi, hl, hd⟩ | ⟨pre, hi, hl, hd⟩)⟩
    · exact ⟨none, _, run_endLoop hl (by simp [rc]), hdone _ (hIp _ _ _ _ hi hl) (put_d _ _ hd)⟩
    · exact ⟨some .ret, _, run_endLoop hl (by simp [rc]), hstop _ (hXp _ _ _ hi hl) (put_d _ _ hd)⟩
end Go.Proofs.YtipigfgnpfhdbaaGreatDoor.E
namespace Go.Proofs.YtipigfgnpfhdbaaGreatDoor.E
open Go.RowKit Go.Shelf U
set_option linter.unusedVariables false
attribute [local go_sem] Oper.semAt_some

theorem bel_put {w W : World} {l : Nat} (h : Bel w W) (hl : w.heap.size ≤ l) (o : Obj) : Bel w (W.putObj l o) :=
  ⟨h.os, h.tape, h.output, by rw [World.putObj_size]; exact h.size, fun j hj => (World.putObj_heap_other (by omega)).trans (h.block j hj)⟩
theorem boxed_put {W : World} {B t l : Nat} {v : Value} (h : Boxed W B t v) (hl : B ≠ l) (o : Obj) : Boxed (W.putObj l o) B t v := (World.putObj_heap_other hl).trans h
theorem boxed_bel {W W' : World} {B t : Nat} {v : Value} (h : Boxed W B t v) (hb : Bel W W') : Boxed W' B t v := (hb.block B h.lt).trans h
theorem boxed_iter {W : World} {B t G : Nat} {v : Value} (h : Boxed W B t v) (hg : B ≠ G) (s : ByteArray) (p : Nat) : Boxed (W.iterAt G s p) B t v := (Lib.iterAt_other W G B s p hg).trans h

/-- What runFor tells is a run of the chapter's, or none. -/
theorem fc_good (o : Option Nat) (ho : ∀ k, o = some k → k < 10) : ∃ f T b, fc (strAt Tryz.f60) o = #[.int .i64 f, .string T, .bool b] ∧ tabO o = codesOf f (decs T T.size 0) ∧ (0 ≤ f ∧ f ≤ 16777216) ∧ T.size < 1000 := by
  cases o with
  | none => exact ⟨0, ⟨#[]⟩, false, rfl, rfl, by omega, by decide⟩
  | some k =>
    have hk := ho k rfl
    exact ⟨fst k, strAt Tryz.f60 k, alt k, rfl, by rw [(good hk).1]; rfl, fst_range k hk, (good hk).2⟩

/-- Between two rounds. -/
def Inv (n : Int) (B : Nat) (w : World) (pre : List (Int × Int)) (W : World) : Prop :=
  (∀ p ∈ pre, p.1 ≠ n) ∧ Boxed W B 3 (.int .i64 n) ∧ Boxed W (B + 1) 21 (.int .i32 0) ∧ Boxed W (B + 2) 4 (.bool false) ∧ Bel w W
/-- A round has found it. -/
def Fnd (tb : List (Int × Int)) (n : Int) (B : Nat) (w : World) (W : World) : Prop :=
  ∃ r, look tb n = (r, true) ∧ Boxed W (B + 1) 21 (.int .i32 r) ∧ Boxed W (B + 2) 4 (.bool true) ∧ Bel w W

theorem Inv.put {n : Int} {B l : Nat} {w W : World} {pre : List (Int × Int)} (h : Inv n B w pre W) (h1 : B + 2 < l) (h2 : w.heap.size ≤ l) (o : Obj) : Inv n B w pre (W.putObj l o) :=
  ⟨h.1, boxed_put h.2.1 (by omega) o, boxed_put h.2.2.1 (by omega) o, boxed_put h.2.2.2.1 (by omega) o, bel_put h.2.2.2.2 h2 o⟩
theorem Inv.bel {n : Int} {B : Nat} {w W W' : World} {pre : List (Int × Int)} (h : Inv n B w pre W) (hb : Bel W W') : Inv n B w pre W' :=
  ⟨h.1, boxed_bel h.2.1 hb, boxed_bel h.2.2.1 hb, boxed_bel h.2.2.2.1 hb, h.2.2.2.2.trans hb⟩
theorem Inv.iter {n : Int} {B G : Nat} {w W : World} {pre : List (Int × Int)} (h : Inv n B w pre W) (h1 : B + 2 < G) (h2 : w.heap.size ≤ G) (s : ByteArray) (p : Nat) : Inv n B w pre (W.iterAt G s p) :=
  ⟨h.1, boxed_iter h.2.1 (by omega) s p, boxed_iter h.2.2.1 (by omega) s p, boxed_iter h.2.2.2.1 (by omega) s p, Lib.below_iterAt h.2.2.2.2 h2 s p⟩
theorem Fnd.put {tb : List (Int × Int)} {n : Int} {B l : Nat} {w W : World} (h : Fnd tb n B w W) (h1 : B + 2 < l) (h2 : w.heap.size ≤ l) (o : Obj) : Fnd tb n B w (W.putObj l o) := by
  obtain ⟨r, h0, h3, h4, h5⟩ := h
  exact ⟨r, h0, boxed_put h3 (by omega) o, boxed_put h4 (by omega) o, bel_put h5 h2 o⟩

set_option maxRecDepth 100000 in
set_option maxHeartbeats 2000000 in
theorem rune_is (n : Int) (w : World) : Calls Tryz.prog 57 #[.int .i64 n] w fun e w' => e = .returned (.tuple #[.int .i32 (runeL n).1, .bool (runeL n).2]) ∧ Bel w w' := by
  obtain ⟨f, T, b, hfc, htb, hf, hT⟩ := fc_good (best n 10) (fun k h => best_lt h)
  have HR := Lib.hid (fun w => by have := runFor_is n w; rw [hfc] at this; exact this : ∀ w, Calls Tryz.prog 95 #[.int .i64 n] w fun e w' => e = .returned (.agg #[.int .i64 f, .string T, .bool b]) ∧ Bel w w')
  unfold runeL
  generalize tabO (best n 10) = tb at htb ⊢
  have HTB := Lib.hid htb
  have HF := Lib.hid hf
  have HTS := Lib.hid hT
  clear hfc htb hf hT
  refine (callsIn_wide (n := 4)).1 ?_
  refine callsIn_of_wp_marks Tryz.func57 rfl trivial ?_ rfl
  simp only [Tryz.ntmps57, List.size_toArray, List.length_cons, List.length_nil, Nat.reduceAdd, Nat.reduceSub, Array.replicate_succ, Array.replicate_zero, List.push_toArray, List.append_toArray, List.nil_append, List.cons_append]
  gi_wp2_with fail
  refine ⟨trivial, ?_⟩
  gi_at_call 95
  refine (callsIn_wide.2 (HR.out _)).mono ?_
  rintro e Wz ⟨rfl, hb2⟩
  have b1 : Boxed (((w.alloc (.cells #[.int .i64 n] 3)).alloc (.cells #[.int .i32 0] 21)).alloc (.cells #[.bool false] 4)) w.heap.size 3 (.int .i64 n) := ((Boxed.new w 3 _).alloc _).alloc _
  have b2 : Boxed (((w.alloc (.cells #[.int .i64 n] 3)).alloc (.cells #[.int .i32 0] 21)).alloc (.cells #[.bool false] 4)) (w.heap.size + 1) 21 (.int .i32 0) := by
    have h := (Boxed.new (w.alloc (.cells #[.int .i64 n] 3)) 21 (.int .i32 0)).alloc (.cells #[.bool false] 4)
    rwa [World.size_alloc] at h
  have b3 : Boxed (((w.alloc (.cells #[.int .i64 n] 3)).alloc (.cells #[.int .i32 0] 21)).alloc (.cells #[.bool false] 4)) (w.heap.size + 2) 4 (.bool false) := by
    have h := Boxed.new ((w.alloc (.cells #[.int .i64 n] 3)).alloc (.cells #[.int .i32 0] 21)) 4 (.bool false)
    rwa [World.size_alloc, World.size_alloc] at h
  have hB : Bel w (((w.alloc (.cells #[.int .i64 n] 3)).alloc (.cells #[.int .i32 0] 21)).alloc (.cells #[.bool false] 4)) := (((Bel.refl w).alloc _).alloc _).alloc _
  have hz : w.heap.size + 3 ≤ Wz.heap.size := by
    have h := Below.size hb2
    simpa using h
  have HI0 := Lib.hid (⟨by simp, boxed_bel b1 hb2, boxed_bel b2 hb2, boxed_bel b3 hb2, hB.trans hb2⟩ : Inv n w.heap.size w [] Wz)
  have HZ := Lib.hid hz
  clear b1 b2 b3 hB hz hb2
  gi_wp2_with fail
  have eq2 : w.heap.size + 2 = w.heap.size + 1 + 1 := rfl
  refine range_codes tb (by decide) rfl (enters_of Tryz.func61 (by kernel_rfl) rfl) rfl (Inv n w.heap.size w) (Fnd tb n w.heap.size w)
    (fun pre W o L h _ => h.put (by have := HZ.out; omega) (by have := HZ.out; omega) o) (fun W o L h _ => h.put (by have := HZ.out; omega) (by have := HZ.out; omega) o) (fun pre W o h => h.bel ((Bel.refl W).alloc o))
    (fun pre W G s p p' h hG hs => h.iter (by have := HZ.out; omega) (by have := HZ.out; omega) s p') HI0.out
    (fun x => { tmps := #[.int .i64 n, .pointer (some ⟨w.heap.size, 0, none⟩), .pointer (some ⟨w.heap.size + 1, 0, none⟩), .pointer (some ⟨w.heap.size + 1 + 1, 0, none⟩), .int .i64 x.1, .int .i32 x.2, .int .i64 n, .agg #[.int .i64 f, .string T, .bool b], .func (.func 61) #[.agg #[.int .i64 f, .string T, .bool b]] #[], .int .i64 x.1, .int .i32 x.2, undef, undef, undef, undef], defers := [] }) ?assign ?body ?it ?done ?stop
  case assign =>
    intro l x W K hK
    gi_wp2
    exact hK
  case it =>
    intro J Jx hJa hJi hY W hl hj
    exact codes_in 3 _ (by decide) f T b HF.out HTS.out tb HTB.out (Wz.heap.size + 2) J Jx hJa hJi hY W hl (by omega) hj
  case body =>
    rintro l pre x W ⟨hp, c1, c2, c3, hB⟩ hx
    rw [eq2] at c3
    have k1 := c1.cell
    have k2 := c2.cell
    have k3 := c3.cell
    have f2 := c2.frozen
    have f3 := c3.frozen
    have HC2 := Lib.hid c2
    have HC3 := Lib.hid c3
    have HC1 := Lib.hid c1
    have HB := Lib.hid hB
    have HX := Lib.hid hx
    have HP := Lib.hid hp
    clear c1 c2 c3 hB hx hp
    gi_wp2
    · rename_i he
      have he' : x.1 = n := by simpa using he
      obtain ⟨rest, hr⟩ := HX.out
      refine ⟨(KeepsOthers.setCell _ _ _).trans (KeepsOthers.setCell _ _ _), x.2, ?_, ?_, ?_, ?_⟩
      · exact look_hit (rest := rest) (by rw [hr, ← he']) HP.out
      · exact (HC2.out.set _).other (by omega) _
      · exact (HC3.out.other (by omega) _).set _
      · exact (Below.setCell HB.out (p := ⟨w.heap.size + 1, 0, none⟩) (by simp) _).setCell (p := ⟨w.heap.size + 1 + 1, 0, none⟩) (by simp; omega) _
    · rename_i he
      refine ⟨KeepsOthers.refl _, fun p hp => ?_, HC1.out, HC2.out, HC3.out, HB.out⟩
      rcases List.mem_append.1 hp with hp | hp
      · exact HP.out p hp
      · simp at hp
        subst hp
        simpa using he
  case done =>
    rintro W ⟨hp, c1, c2, c3, hB⟩ hK
    rw [eq2] at c3
    have k2 := c2.cell
    have k3 := c3.cell
    have f2 := c2.frozen
    have f3 := c3.frozen
    gi_wp2
    have hK' := ((KeepsOthers.setCell W ⟨w.heap.size + 1, 0, none⟩ (.int .i32 0)).trans (KeepsOthers.setCell _ ⟨w.heap.size + 1 + 1, 0, none⟩ (.bool false))).same _ _ hK rfl
    have d2 := boxed_put ((c2.set (.int .i32 0)).other (B' := w.heap.size + 1 + 1) (by omega) (.bool false)) (l := Wz.heap.size) (by have := HZ.out; omega) (.deferred none)
    have d3 := boxed_put ((c3.other (B' := w.heap.size + 1) (by omega) (.int .i32 0)).set (.bool false)) (l := Wz.heap.size) (by have := HZ.out; omega) (.deferred none)
    have e2 := d2.cell
    have e3 := d3.cell
    refine ⟨by simp, .inl ⟨_, _, rfl, run_takeDeferred hK', ?_⟩⟩
    rw [look_miss hp]
    refine ⟨.tuple #[.int .i32 0, .bool false], ?_, rfl, bel_put ((Below.setCell hB (p := ⟨w.heap.size + 1, 0, none⟩) (by simp) _).setCell (p := ⟨w.heap.size + 1 + 1, 0, none⟩) (by simp; omega) _) (by have := HZ.out; omega) _⟩
    simp [results, Tryz.f57, go_sem, e2, e3]
  case stop =>
    rintro W ⟨r, hr, c2, c3, hB⟩ hK
    rw [eq2] at c3
    have d2 := boxed_put c2 (l := Wz.heap.size) (by have := HZ.out; omega) (.deferred none)
    have d3 := boxed_put c3 (l := Wz.heap.size) (by have := HZ.out; omega) (.deferred none)
    have e2 := d2.cell
    have e3 := d3.cell
    gi_wp2
    refine ⟨by simp, .inl ⟨_, _, rfl, run_takeDeferred hK, ?_⟩⟩
    refine ⟨.tuple #[.int .i32 r, .bool true], ?_, rfl, bel_put hB (by have := HZ.out; omega) _⟩
    simp [results, Tryz.f57, go_sem, e2, e3]
end Go.Proofs.YtipigfgnpfhdbaaGreatDoor.E
namespace Go.Proofs.YtipigfgnpfhdbaaGreatDoor.E
open Go.RowKit Go.Shelf U
set_option linter.unusedVariables false
attribute [local go_sem] Oper.semAt_some

/-- The marks of loops that are through, the newest one first. -/
def Dok (lo : Nat) (W : World) : Nat → List Deferred → Prop
  | _, [] => True
  | hi, d :: ds => ∃ D, d.target = .collected D ∧ lo ≤ D ∧ D < hi ∧ W.heap[D]? = some (.deferred (some [])) ∧ Dok lo W D ds
theorem Dok.mono {lo : Nat} {W W' : World} : ∀ {ds : List Deferred} {hi hi' : Nat}, Dok lo W hi ds → hi ≤ hi' → (∀ D, D < hi → W.heap[D]? = some (.deferred (some [])) → W'.heap[D]? = some (.deferred (some []))) → Dok lo W' hi' ds
  | [], _, _, _, _, _ => trivial
  | d :: ds, hi, hi', ⟨D, h1, h2, h3, h4, h5⟩, hh, hk => ⟨D, h1, h2, by omega, hk D h3 h4, h5.mono (Nat.le_refl _) (fun E hE => hk E (by omega))⟩
theorem leaves_all {F : Fence} {n : Nat} {P : Program} {fn : Func} {tmps : Array Value} {R : Ending → World → Prop} (lo : Nat) (X : World → Prop)
    (hX : ∀ W D o, X W → lo ≤ D → W.heap[D]? = some (.deferred (some [])) → X (W.putObj D o)) (hR : ∀ W, X W → LeavesIn F n P fn tmps R [] .returning W) :
    ∀ (ds : List Deferred) (hi : Nat) (W : World), Dok lo W hi ds → X W → LeavesInM F n P fn tmps R ds .returning W
  | [], _, W, _, hx => hR W hx
  | d :: ds, hi, W, ⟨D, h1, h2, h3, h4, h5⟩, hx => by
    refine ⟨by simp, .inl ⟨D, _, h1, run_takeDeferred h4, leaves_all lo X hX hR ds D _ (h5.mono (Nat.le_refl _) (fun E hE h => ?_)) (hX _ _ _ hx h2 h4)⟩⟩
    exact (World.putObj_heap_other (by omega)).trans h

/-- The list so far. -/
def CI (r : Int) (w : World) (l : List Int) (W : World) : Prop :=
  Boxed W w.heap.size 21 (.int .i32 r) ∧ (∃ v, Boxed W (w.heap.size + 1) 62 v ∧ W.ownsRow w.heap.size 3 1 v l.length (l.map (Value.int .i64))) ∧ Bel w W
theorem own_iter {W : World} {base : Nat} {e : TypeId} {v : Value} {k : Nat} {xs : List Value} (h : W.ownsRow base e 1 v k xs) {G : Nat} {s : ByteArray} {p : Nat} (p' : Nat) (hs : W.heap[G]? = some (.stringIter s p)) : (W.iterAt G s p').ownsRow base e 1 v k xs := by
  refine ⟨h.1, ?_⟩
  rcases h.2 with h | ⟨g, cap, cur, hv, hbg, hg, rest⟩
  · exact .inl h
  · refine .inr ⟨g, cap, cur, hv, hbg, ?_, rest⟩
    rw [Lib.iterAt_other W G g s p' (fun e => by rw [e, hs] at hg; cases hg)]
    exact hg
theorem CI.alloc {r : Int} {w W : World} {l : List Int} (h : CI r w l W) (o : Obj) : CI r w l (W.alloc o) := by
  obtain ⟨h1, ⟨v, h2, h3⟩, h4⟩ := h
  exact ⟨h1.alloc o, ⟨v, h2.alloc o, h3.alloc o⟩, h4.alloc o⟩
theorem CI.put {r : Int} {w W : World} {l : List Int} (h : CI r w l W) {L : Nat} {x : Obj} (o : Obj) (hl : W.heap[L]? = some x) (hx : x.isCells = false) (hw : w.heap.size ≤ L) : CI r w l (W.putObj L o) := by
  obtain ⟨h1, ⟨v, h2, h3⟩, h4⟩ := h
  have n1 : w.heap.size ≠ L := fun e => by rw [← e, show W.heap[w.heap.size]? = _ from h1] at hl; cases hl; cases hx
  have n2 : w.heap.size + 1 ≠ L := fun e => by rw [← e, show W.heap[w.heap.size + 1]? = _ from h2] at hl; cases hl; cases hx
  exact ⟨boxed_put h1 n1 o, ⟨v, boxed_put h2 n2 o, ownsRow_putObj h3 o hl hx⟩, bel_put h4 hw o⟩
theorem CI.iter {r : Int} {w W : World} {l : List Int} (h : CI r w l W) {G : Nat} {s : ByteArray} {p : Nat} (p' : Nat) (hs : W.heap[G]? = some (.stringIter s p)) (hw : w.heap.size ≤ G) : CI r w l (W.iterAt G s p') := by
  obtain ⟨h1, ⟨v, h2, h3⟩, h4⟩ := h
  have n1 : w.heap.size ≠ G := fun e => by rw [← e, show W.heap[w.heap.size]? = _ from h1] at hs; cases hs
  have n2 : w.heap.size + 1 ≠ G := fun e => by rw [← e, show W.heap[w.heap.size + 1]? = _ from h2] at hs; cases hs
  exact ⟨boxed_iter h1 n1 s p', ⟨v, boxed_iter h2 n2 s p', own_iter h3 p' hs⟩, Lib.below_iterAt h4 hw s p'⟩

theorem tab_short : ∀ k, k < 10 → (tab k).length ≤ 200 := by decide +kernel
theorem sel_short (r : Int) (l : List (Int × Int)) : (sel r l).length ≤ l.length := by
  unfold sel
  rw [List.length_map]
  exact List.length_filter_le _ _
theorem codesL_short (r : Int) : ∀ k, k ≤ 10 → (codesL r k).length ≤ 200 * k
  | 0, _ => by simp [codesL]
  | k + 1, h => by
    have h1 := codesL_short r k (by omega)
    have h2 := tab_short k (by omega)
    have h3 := sel_short r (tab k)
    simp only [codesL, List.length_append]
    omega
theorem sel_hit (r : Int) (pre : List (Int × Int)) {x : Int × Int} (h : x.2 = r) : sel r (pre ++ [x]) = sel r pre ++ [x.1] := by simp [sel, h]
theorem sel_miss (r : Int) (pre : List (Int × Int)) {x : Int × Int} (h : ¬ x.2 = r) : sel r (pre ++ [x]) = sel r pre := by simp [sel, h]
theorem int3 : (Tryz.prog.info? 3).map (fun i => (i.zero, i.size, i.bytes)) = some (some (.int .i64 0), 1, 8) := by kernel_rfl

/-- Between two rounds. -/
def IC (r : Int) (w : World) (l : List Int) (hi : Nat) (ds : List Deferred) (pre : List (Int × Int)) (W : World) : Prop := CI r w (l ++ sel r pre) W ∧ Dok w.heap.size W hi ds

/-- Between two runs. -/
def InvC (V : Array Value) (r : Int) (w : World) (a : Act) (W : World) : Prop :=
  ∃ (k : Nat) (ds : List Deferred) (u5 u10 u11 u12 u13 u23 : Value), k ≤ 10 ∧ a = { tmps := #[.int .i32 r, .pointer (some ⟨w.heap.size, 0, none⟩), .slice none 0 0, .pointer (some ⟨w.heap.size + 1, 0, none⟩), undef, u5, undef, undef, .agg V, .int .i64 k, u10, u11, u12, u13, undef, undef, undef, undef, undef, undef, undef, undef, undef, u23, undef], defers := ds } ∧ CI r w (codesL r k) W ∧ Dok w.heap.size W W.heap.size ds

set_option maxRecDepth 100000 in
set_option maxHeartbeats 2000000 in
theorem codes_is (r : Int) (w : World) : Calls Tryz.prog 37 #[.int .i32 r] w fun e w' => ∃ v, e = .returned v ∧ U.Own w' w.heap.size 3 .i64 v (codesL r 10) ∧ Bel w w' := by
  have HR := Lib.hid runs_is
  have HI := Lib.hid (fun k (hk : k < 10) w => index_at (strAt Tryz.f60) hk w)
  have HG := Lib.hid (fun k (hk : k < 10) => good hk)
  generalize strAt Tryz.f60 = S at HR HI HG
  generalize rcs S = V at HR HI
  refine (callsIn_wide (n := 4)).1 ?_
  refine callsIn_of_wp_marks Tryz.func37 rfl trivial ?_ rfl
  simp only [Tryz.ntmps37, List.size_toArray, List.length_cons, List.length_nil, Nat.reduceAdd, Nat.reduceSub, Array.replicate_succ, Array.replicate_zero, List.push_toArray, List.append_toArray, List.nil_append, List.cons_append]
  gi_wp2_with fail
  refine ⟨trivial, ?_⟩
  gi_at_call 60
  refine (callsIn_wide.2 (HR.out _)).mono ?_
  rintro e w2 ⟨rfl, hb2⟩
  have b1 : Boxed ((w.alloc (.cells #[.int .i32 r] 21)).alloc (.cells #[.slice none 0 0] 62)) w.heap.size 21 (.int .i32 r) := (Boxed.new w 21 _).alloc _
  have b2 : Boxed ((w.alloc (.cells #[.int .i32 r] 21)).alloc (.cells #[.slice none 0 0] 62)) (w.heap.size + 1) 62 (.slice none 0 0) := by
    have h := Boxed.new (w.alloc (.cells #[.int .i32 r] 21)) 62 (.slice none 0 0)
    rwa [World.size_alloc] at h
  have HC := Lib.hid (⟨boxed_bel b1 hb2, ⟨_, boxed_bel b2 hb2, World.ownsRow_nil _ _ _ _⟩, (((Bel.refl w).alloc _).alloc _).trans hb2⟩ : CI r w (codesL r 0) w2)
  clear b1 b2 hb2
  gi_wp2_with fail
  refine wpIn_loop (InvC V r w) (fun a _ => 10 - (intOf (a.tmps.getD 9 undef)).toNat) ?_ ?_
  · exact ⟨0, [], _, _, _, _, _, _, by omega, rfl, HC.out, trivial⟩
  rintro a W ⟨k, ds, u5, u10, u11, u12, u13, u23, hk, rfl, hC, hD⟩
  have HC := Lib.hid hC
  have HD := Lib.hid hD
  clear hC hD
  by_cases hlk : k < 10
  · have hix := fun w => HI.out k hlk w
    obtain ⟨hg1, hg2⟩ := HG.out k hlk
    have HTB := Lib.hid (show tab k = codesOf (fst k) (decs (S k) (S k).size 0) by rw [hg1]; rfl)
    have HTS := Lib.hid hg2
    have HF := Lib.hid (fst_range k hlk)
    have HLT := Lib.hid (tab_short k hlk)
    have HLL := Lib.hid (codesL_short r k hk)
    have HL1 := Lib.hid (show codesL r (k + 1) = codesL r k ++ sel r (tab k) from rfl)
    clear hg1 hg2
    generalize fst k = f at hix HTB HF
    generalize S k = T at hix HTB HTS
    generalize alt k = b at hix
    generalize tab k = tb at HTB HLT HL1
    generalize codesL r k = done at HC HLL HL1
    gi_wp2_with fail
    have HC2 := Lib.hid (HC.out.alloc (.cells #[.int .i64 f, .string T, .bool b] 86))
    have HD2 := Lib.hid (HD.out.mono (W' := W.alloc (.cells #[.int .i64 f, .string T, .bool b] 86)) (hi' := (W.alloc (.cells #[.int .i64 f, .string T, .bool b] 86)).heap.size) (by simp) (fun D hD h => (Lib.alloc_old W _ D hD).trans h))
    clear hix
    generalize hWz : W.alloc (.cells #[.int .i64 f, .string T, .bool b] 86) = Wz at HC2 HD2 ⊢
    generalize hWs : W.heap.size = Ws
    clear hWz
    have HZ := Lib.hid (show w.heap.size ≤ Wz.heap.size from Below.size HC2.out.2.2)
    refine range_codes tb (by decide) rfl (enters_of Tryz.func61 (by kernel_rfl) rfl) rfl (IC r w done Wz.heap.size ds) (fun _ => False)
      (fun pre X o L h hl => ⟨h.1.put o hl rfl (by have := HZ.out; omega), h.2.mono (Nat.le_refl _) (fun D hD h => (World.putObj_heap_other (by omega)).trans h)⟩) (fun _ _ _ h _ => h)
      (fun pre X o h => ⟨h.1.alloc o, h.2.mono (Nat.le_refl _) (fun D hD h => (Lib.alloc_old X _ D (Array.getElem?_eq_some_iff.1 h).1).trans h)⟩)
      (fun pre X G s p p' h hG hs => ⟨h.1.iter p' hs (by have := HZ.out; omega), h.2.mono (Nat.le_refl _) (fun D hD h => (Lib.iterAt_other X G D s p' (by omega)).trans h)⟩)
      ⟨by simpa [sel] using HC2.out, HD2.out⟩
      (fun x => { tmps := #[.int .i32 r, .pointer (some ⟨w.heap.size, 0, none⟩), .slice none 0 0, .pointer (some ⟨w.heap.size + 1, 0, none⟩), undef, .pointer (some ⟨Ws, 0, none⟩), .int .i64 x.1, .int .i32 x.2, .agg V, .int .i64 k, .bool true, .agg #[.int .i64 f, .string T, .bool b], .agg #[.int .i64 f, .string T, .bool b], .func (.func 61) #[.agg #[.int .i64 f, .string T, .bool b]] #[], .int .i64 x.1, .int .i32 x.2, undef, undef, undef, undef, undef, undef, undef, u23, undef], defers := [] }) ?assign ?body ?it ?done ?stop
    case assign =>
      intro l x X K hK
      gi_wp2
      exact hK
    case it =>
      intro J Jx hJa hJi hY X hl hj
      exact codes_in 3 _ (by decide) f T b HF.out HTS.out tb HTB.out (Wz.heap.size + 2) J Jx hJa hJi hY X hl (by omega) hj
    case body =>
      rintro l pre x X ⟨⟨hb1, ⟨v, hv, hrow⟩, hB⟩, hDk⟩ hx
      have hlen : (done ++ sel r pre).length ≤ 3000 := by
        obtain ⟨rest, hr⟩ := hx
        have h1 := HLL.out
        have h2 := HLT.out
        have h3 := sel_short r pre
        rw [hr] at h2
        simp only [List.length_append] at h2 ⊢
        omega
      have hc1 := hb1.cell
      have hc2 := hv.cell
      have HDK := Lib.hid hDk
      obtain ⟨i0, hi, hz0, hz1, hz2⟩ := info_parts int3
      clear hx
      by_cases hxr : x.2 = r
      · have hxb : (x.2 == r) = true := by simpa using hxr
        have HX := Lib.hid hxr
        clear hxr
        gi_wp2_with (gi_at_builtin; refine wpListIn_append_own _ rfl _ _ 62 rfl w.heap.size 3 i0 (.int .i64 0) 1 8 Tryz.underlying62 hi hz0 hz1 hz2 rfl (by decide) _ _ _ rfl (hrow.alloc _) ⟨X.heap.size, 0, none⟩ 1 1 [.int .i64 x.1] rfl rfl (cell_one_new _ _ _) (by simp [Value.oneCell']) (by simp only [maxLen]; omega) (by omega) (by have := hB.size; simp; omega) ?_; intro v' w1 hown' hgrow _; obtain ⟨g', cap', rfl⟩ := ownsRow_succ hown'; obtain ⟨hv1, hv2, hr2, hk2, hb2⟩ := hv.appended (by decide) hrow hB.size (by omega) hown' hgrow; have hc3 := hv1.cell; have hf3 := hv1.frozen)
        have q1 : Boxed w1 w.heap.size 21 (.int .i32 r) := (hb1.alloc _).kept hgrow (hb1.not_row (by decide) hrow)
        simp only [List.length_append] at hv2 hr2 hk2 hb2
        refine ⟨hk2, ⟨q1.other (by omega) _, ⟨_, hv2, ?_⟩, Below.trans hB hb2⟩, HDK.out.mono (Nat.le_refl _) (fun D hD h => hk2.same _ _ h rfl)⟩
        rw [sel_hit r pre HX.out]
        simpa [List.length_append, Nat.add_assoc] using hr2
      · have hxb : (x.2 == r) = false := by simpa using hxr
        have HX := Lib.hid hxr
        clear hxr
        gi_wp2
        refine ⟨KeepsOthers.refl _, ⟨hb1, ⟨v, hv, ?_⟩, hB⟩, HDK.out⟩
        rw [sel_miss r pre HX.out]
        exact hrow
    case done =>
      rintro W' ⟨hC', hD'⟩ hK
      have HL := Lib.hid (Array.getElem?_eq_some_iff.1 hK).1
      have HK := Lib.hid hK
      have HC3 := Lib.hid hC'
      have HD3 := Lib.hid hD'
      clear hK hC' hD'
      gi_wp2
      refine ⟨⟨k + 1, _, _, _, _, _, _, _, by omega, rfl, ?_, ?_⟩, ?_⟩
      · rw [HL1.out]
        exact HC3.out
      · exact ⟨Wz.heap.size, rfl, HZ.out, HL.out, HK.out, HD3.out⟩
      · simp [intOf]
        omega
    case stop =>
      intro W' h
      exact h.elim
  · obtain rfl : k = 10 := by omega
    obtain ⟨hb1, ⟨v, hv, hrow⟩, hB⟩ := HC.out
    have hc2 := hv.cell
    have HRO := Lib.hid hrow
    have HB := Lib.hid hB
    clear hb1 hv hrow hB
    gi_wp2_with fail
    exact leaves_all w.heap.size (fun X => U.Own X w.heap.size 3 .i64 v (codesL r 10) ∧ Bel w X)
      (fun X D o h hD hd => ⟨ownsRow_putObj h.1 o hd rfl, bel_put h.2 hD o⟩) (fun X h => ⟨_, results_tmp rfl _ _ _, v, rfl, h.1, h.2⟩) ds _ W HD.out ⟨HRO.out, HB.out⟩
end Go.Proofs.YtipigfgnpfhdbaaGreatDoor.E
