/- The ten runs of eacc: the characters of a text, the codes that follow each other, what stands at each code. Plain mathematics. -/
import Derived.WalkKit
import Derived.Lib.OthersKept
namespace Go.Proofs.Ytkhcodmcddeakaa.U
open Go.RowKit
set_option linter.unusedVariables false

/-- The characters of a text from a place on. -/
def decs (S : ByteArray) : Nat → Nat → List Int
  | 0, _ => []
  | f + 1, p => if p < S.size then ((Utf8.decode S p).1 : Int) :: decs S f (p + (Utf8.decode S p).2) else []
theorem decs_end (S : ByteArray) (f p : Nat) (h : ¬ p < S.size) : decs S f p = [] := by
  cases f with
  | zero => rfl
  | succ f => simp [decs, h]
theorem decs_at {S : ByteArray} {f p : Nat} (h : p < S.size) : decs S (f + 1) p = ((Utf8.decode S p).1 : Int) :: decs S f (p + (Utf8.decode S p).2) := by simp [decs, h]
theorem width_pos (s : ByteArray) (pos : Nat) (h : pos < s.size) : 1 ≤ (Utf8.decode s pos).2 := by
  by_cases ha : (s[pos]'h).toNat < 128
  · rw [decode_ascii s pos h ha]
    exact Nat.le_refl _
  · exact (decode_high s pos h (by omega)).2

/-- The number behind another one. -/
def nx (c : Int) : Int := if c % 256 = 126 then c + 163 else c + 1
/-- Numbers that follow each other, each with its character. -/
def codesOf : Int → List Int → List (Int × Int)
  | _, [] => []
  | c, r :: l => (c, r) :: codesOf (nx c) l
/-- What stands at a number. -/
def look : List (Int × Int) → Int → Int × Bool
  | [], _ => (0, false)
  | p :: l, n => if p.1 = n then (p.2, true) else look l n
theorem look_miss {l : List (Int × Int)} {n : Int} (h : ∀ p ∈ l, p.1 ≠ n) : look l n = (0, false) := by
  induction l with
  | nil => rfl
  | cons p l ih =>
    rw [look, if_neg (h p (by simp))]
    exact ih fun q hq => h q (by simp [hq])
theorem look_hit {l pre rest : List (Int × Int)} {n r : Int} (h : l = pre ++ (n, r) :: rest) (hp : ∀ p ∈ pre, p.1 ≠ n) : look l n = (r, true) := by
  subst h
  induction pre with
  | nil => simp [look]
  | cons p l ih =>
    rw [List.cons_append, look, if_neg (hp p (by simp))]
    exact ih fun q hq => hp q (by simp [hq])
theorem look_mem {l : List (Int × Int)} {n r : Int} (h : look l n = (r, true)) : (n, r) ∈ l := by
  induction l with
  | nil => simp [look] at h
  | cons p l ih =>
    rw [look] at h
    split at h
    · rename_i hp
      obtain ⟨a, b⟩ := p
      simp only [Prod.mk.injEq, and_true] at h hp
      subst h hp
      simp
    · exact List.mem_cons_of_mem _ (ih h)

/-- The runs' first codes. -/
def firsts : List Int := [2171681, 2171688, 2175009, 2568225, 2568228, 2568237, 3362337, 6890529, 6890785, 6891052]
def alts : List Bool := [false, false, false, true, true, true, true, false, false, false]
/-- The runs' characters. -/
def chars : List (List Int) := [[12288],
  [12289, 12290, 12300, 12301],
  [19968, 19969, 19971, 19976, 19977, 19979, 19978, 19981, 19985, 19988, 19990, 19992, 19993, 20006, 20013, 20024, 20025, 20027, 20035, 20037, 20043, 20045, 20046, 20047, 20054, 20056, 20057, 20061, 20062, 20063, 20083, 20094, 20098, 20102, 20104, 20107, 20108, 20110, 20113, 20114, 20116, 20117, 20123, 20126, 20129, 20132, 20133, 20134, 20136, 20139, 20140, 20141, 20154, 20160, 20161, 20167, 20170, 20171, 20173, 20182, 20184, 20185, 20195, 20196, 20197, 20208, 20210, 20214, 20219, 20225, 20234, 20237, 20241, 20239, 20271, 20276, 20280, 20284, 20301, 20302, 20303, 20309, 20313, 20315, 20316, 20320, 20329, 20339, 20351, 20358, 20363, 20379, 20381, 20415, 20418, 20419, 20420, 20426, 20439, 20445, 20449, 20462, 20491, 20493, 20498, 20505, 20511, 20523, 20540, 20551, 20553, 20559, 20581, 20596, 20598, 20621, 20625, 20633, 20659, 20663, 20687, 20677, 20689, 20736, 20740, 20754, 20778, 20803, 20804, 20805, 20806, 20808, 20809, 20811, 20813, 20818, 20837, 20839, 20840, 20841, 20843, 20844, 20845, 20849, 20853, 20854, 20855, 20856, 20877, 20874, 20908, 20912, 20919, 20934, 20961, 20986, 20992, 20998, 20999, 21009, 21015, 21021, 21028, 21029, 21033, 21040, 21046, 21050, 21051, 21063, 21069, 21083, 21109, 21147, 21151],
  [19968],
  [19976],
  [19992],
  [12300],
  [12353, 12354, 12355, 12356, 12357, 12358, 12359, 12360, 12361, 12362, 12363, 12364, 12365, 12366, 12367, 12368, 12369, 12370, 12371, 12372, 12373, 12374, 12375, 12376, 12377, 12378, 12379, 12380, 12381, 12382, 12383, 12384, 12385, 12386, 12387, 12388, 12389, 12390, 12391, 12392, 12393, 12394, 12395, 12396, 12397, 12398, 12399, 12400, 12401, 12402, 12403, 12404, 12405, 12406, 12407, 12408, 12409, 12410, 12411, 12412, 12413, 12414, 12415, 12416, 12417, 12418, 12419, 12420, 12421, 12422, 12423, 12424, 12425, 12426, 12427, 12428, 12429, 12430, 12431, 12432, 12433, 12434, 12435],
  [12449, 12450, 12451, 12452, 12453, 12454, 12455, 12456, 12457, 12458, 12459, 12460, 12461, 12462, 12463, 12464, 12465, 12466, 12467, 12468, 12469, 12470, 12471, 12472, 12473, 12474, 12475, 12476, 12477, 12478, 12479, 12480, 12481, 12482, 12483, 12484, 12485, 12486, 12487, 12488, 12489, 12490, 12491, 12492, 12493, 12494, 12495, 12496, 12497, 12498, 12499, 12500, 12501, 12502, 12503, 12504, 12505, 12506, 12507, 12508, 12509, 12510, 12511, 12512, 12513, 12514, 12515, 12516, 12517, 12518, 12519, 12520, 12521, 12522, 12523, 12524, 12525, 12526, 12527, 12528, 12529, 12530, 12531, 12532, 12533, 12534],
  [12540]]
/-- The runs' characters, byte by byte. -/
def texts : List (List UInt8) := [[227, 128, 128],
  [227, 128, 129, 227, 128, 130, 227, 128, 140, 227, 128, 141],
  [228, 184, 128, 228, 184, 129, 228, 184, 131, 228, 184, 136, 228, 184, 137, 228, 184, 139, 228, 184, 138, 228, 184, 141, 228, 184, 145, 228, 184, 148, 228, 184, 150, 228, 184, 152, 228, 184, 153, 228, 184, 166, 228, 184, 173, 228, 184, 184, 228, 184, 185, 228, 184, 187, 228, 185, 131, 228, 185, 133, 228, 185, 139, 228, 185, 141, 228, 185, 142, 228, 185, 143, 228, 185, 150, 228, 185, 152, 228, 185, 153, 228, 185, 157, 228, 185, 158, 228, 185, 159, 228, 185, 179, 228, 185, 190, 228, 186, 130, 228, 186, 134, 228, 186, 136, 228, 186, 139, 228, 186, 140, 228, 186, 142, 228, 186, 145, 228, 186, 146, 228, 186, 148, 228, 186, 149, 228, 186, 155, 228, 186, 158, 228, 186, 161, 228, 186, 164, 228, 186, 165, 228, 186, 166, 228, 186, 168, 228, 186, 171, 228, 186, 172, 228, 186, 173, 228, 186, 186, 228, 187, 128, 228, 187, 129, 228, 187, 135, 228, 187, 138, 228, 187, 139, 228, 187, 141, 228, 187, 150, 228, 187, 152, 228, 187, 153, 228, 187, 163, 228, 187, 164, 228, 187, 165, 228, 187, 176, 228, 187, 178, 228, 187, 182, 228, 187, 187, 228, 188, 129, 228, 188, 138, 228, 188, 141, 228, 188, 145, 228, 188, 143, 228, 188, 175, 228, 188, 180, 228, 188, 184, 228, 188, 188, 228, 189, 141, 228, 189, 142, 228, 189, 143, 228, 189, 149, 228, 189, 153, 228, 189, 155, 228, 189, 156, 228, 189, 160, 228, 189, 169, 228, 189, 179, 228, 189, 191, 228, 190, 134, 228, 190, 139, 228, 190, 155, 228, 190, 157, 228, 190, 191, 228, 191, 130, 228, 191, 131, 228, 191, 132, 228, 191, 138, 228, 191, 151, 228, 191, 157, 228, 191, 161, 228, 191, 174, 229, 128, 139, 229, 128, 141, 229, 128, 146, 229, 128, 153, 229, 128, 159, 229, 128, 171, 229, 128, 188, 229, 129, 135, 229, 129, 137, 229, 129, 143, 229, 129, 165, 229, 129, 180, 229, 129, 182, 229, 130, 141, 229, 130, 145, 229, 130, 153, 229, 130, 179, 229, 130, 183, 229, 131, 143, 229, 131, 133, 229, 131, 145, 229, 132, 128, 229, 132, 132, 229, 132, 146, 229, 132, 170, 229, 133, 131, 229, 133, 132, 229, 133, 133, 229, 133, 134, 229, 133, 136, 229, 133, 137, 229, 133, 139, 229, 133, 141, 229, 133, 146, 229, 133, 165, 229, 133, 167, 229, 133, 168, 229, 133, 169, 229, 133, 171, 229, 133, 172, 229, 133, 173, 229, 133, 177, 229, 133, 181, 229, 133, 182, 229, 133, 183, 229, 133, 184, 229, 134, 141, 229, 134, 138, 229, 134, 172, 229, 134, 176, 229, 134, 183, 229, 135, 134, 229, 135, 161, 229, 135, 186, 229, 136, 128, 229, 136, 134, 229, 136, 135, 229, 136, 145, 229, 136, 151, 229, 136, 157, 229, 136, 164, 229, 136, 165, 229, 136, 169, 229, 136, 176, 229, 136, 182, 229, 136, 186, 229, 136, 187, 229, 137, 135, 229, 137, 141, 229, 137, 155, 229, 137, 181, 229, 138, 155, 229, 138, 159],
  [228, 184, 128],
  [228, 184, 136],
  [228, 184, 152],
  [227, 128, 140],
  [227, 129, 129, 227, 129, 130, 227, 129, 131, 227, 129, 132, 227, 129, 133, 227, 129, 134, 227, 129, 135, 227, 129, 136, 227, 129, 137, 227, 129, 138, 227, 129, 139, 227, 129, 140, 227, 129, 141, 227, 129, 142, 227, 129, 143, 227, 129, 144, 227, 129, 145, 227, 129, 146, 227, 129, 147, 227, 129, 148, 227, 129, 149, 227, 129, 150, 227, 129, 151, 227, 129, 152, 227, 129, 153, 227, 129, 154, 227, 129, 155, 227, 129, 156, 227, 129, 157, 227, 129, 158, 227, 129, 159, 227, 129, 160, 227, 129, 161, 227, 129, 162, 227, 129, 163, 227, 129, 164, 227, 129, 165, 227, 129, 166, 227, 129, 167, 227, 129, 168, 227, 129, 169, 227, 129, 170, 227, 129, 171, 227, 129, 172, 227, 129, 173, 227, 129, 174, 227, 129, 175, 227, 129, 176, 227, 129, 177, 227, 129, 178, 227, 129, 179, 227, 129, 180, 227, 129, 181, 227, 129, 182, 227, 129, 183, 227, 129, 184, 227, 129, 185, 227, 129, 186, 227, 129, 187, 227, 129, 188, 227, 129, 189, 227, 129, 190, 227, 129, 191, 227, 130, 128, 227, 130, 129, 227, 130, 130, 227, 130, 131, 227, 130, 132, 227, 130, 133, 227, 130, 134, 227, 130, 135, 227, 130, 136, 227, 130, 137, 227, 130, 138, 227, 130, 139, 227, 130, 140, 227, 130, 141, 227, 130, 142, 227, 130, 143, 227, 130, 144, 227, 130, 145, 227, 130, 146, 227, 130, 147],
  [227, 130, 161, 227, 130, 162, 227, 130, 163, 227, 130, 164, 227, 130, 165, 227, 130, 166, 227, 130, 167, 227, 130, 168, 227, 130, 169, 227, 130, 170, 227, 130, 171, 227, 130, 172, 227, 130, 173, 227, 130, 174, 227, 130, 175, 227, 130, 176, 227, 130, 177, 227, 130, 178, 227, 130, 179, 227, 130, 180, 227, 130, 181, 227, 130, 182, 227, 130, 183, 227, 130, 184, 227, 130, 185, 227, 130, 186, 227, 130, 187, 227, 130, 188, 227, 130, 189, 227, 130, 190, 227, 130, 191, 227, 131, 128, 227, 131, 129, 227, 131, 130, 227, 131, 131, 227, 131, 132, 227, 131, 133, 227, 131, 134, 227, 131, 135, 227, 131, 136, 227, 131, 137, 227, 131, 138, 227, 131, 139, 227, 131, 140, 227, 131, 141, 227, 131, 142, 227, 131, 143, 227, 131, 144, 227, 131, 145, 227, 131, 146, 227, 131, 147, 227, 131, 148, 227, 131, 149, 227, 131, 150, 227, 131, 151, 227, 131, 152, 227, 131, 153, 227, 131, 154, 227, 131, 155, 227, 131, 156, 227, 131, 157, 227, 131, 158, 227, 131, 159, 227, 131, 160, 227, 131, 161, 227, 131, 162, 227, 131, 163, 227, 131, 164, 227, 131, 165, 227, 131, 166, 227, 131, 167, 227, 131, 168, 227, 131, 169, 227, 131, 170, 227, 131, 171, 227, 131, 172, 227, 131, 173, 227, 131, 174, 227, 131, 175, 227, 131, 176, 227, 131, 177, 227, 131, 178, 227, 131, 179, 227, 131, 180, 227, 131, 181, 227, 131, 182],
  [227, 131, 188]]
def fst (k : Nat) : Int := firsts.getD k 0
def alt (k : Nat) : Bool := alts.getD k false
def chs (k : Nat) : List Int := chars.getD k []
def txt (k : Nat) : List UInt8 := texts.getD k []
/-- A run's codes, each with its character. -/
def tab (k : Nat) : List (Int × Int) := codesOf (fst k) (chs k)
/-- Of the first k runs the last one that does not begin behind n. -/
def best (n : Int) : Nat → Option Nat
  | 0 => none
  | k + 1 => if fst k ≤ n then some k else best n k
theorem best_lt {n : Int} {k j : Nat} (h : best n k = some j) : j < k := by
  induction k with
  | zero => simp [best] at h
  | succ k ih =>
    rw [best] at h
    split at h
    · cases h
      omega
    · have := ih h
      omega
def tabO : Option Nat → List (Int × Int)
  | none => []
  | some k => tab k
/-- The character of a number. -/
def runeL (n : Int) : Int × Bool := look (tabO (best n 10)) n
/-- Those of a list that are the character r: their numbers. -/
def sel (r : Int) (l : List (Int × Int)) : List Int := (l.filter fun p => decide (p.2 = r)).map (·.1)
theorem sel_append (r : Int) (a b : List (Int × Int)) : sel r (a ++ b) = sel r a ++ sel r b := by simp [sel]
/-- All codes of a character of the first k runs. -/
def codesL (r : Int) : Nat → List Int
  | 0 => []
  | k + 1 => codesL r k ++ sel r (tab k)

theorem fst_range : ∀ k, k < 10 → 0 ≤ fst k ∧ fst k ≤ 16777216 := by decide +kernel

/-- Three bytes are one character. -/
def three : List UInt8 → List Int
  | a :: b :: c :: t => (((a.toNat % 16) * 4096 + (b.toNat % 64) * 64 + c.toNat % 64 : Nat) : Int) :: three t
  | _ => []
def ok3 : List UInt8 → Bool
  | [] => true
  | a :: b :: c :: t => decide (a.toNat / 16 = 14) && decide (b.toNat / 64 = 2) && decide (c.toNat / 64 = 2) && decide (2048 ≤ (a.toNat % 16) * 4096 + (b.toNat % 64) * 64 + c.toNat % 64) && Utf8.valid (((a.toNat % 16) * 4096 + (b.toNat % 64) * 64 + c.toNat % 64 : Nat) : Int) && ok3 t
  | _ => false
theorem get_drop {S : ByteArray} {p k : Nat} {l : List UInt8} {x : UInt8} (h : S.data.toList.drop p = l) (hx : l[k]? = some x) : S.get! (p + k) = x ∧ p + k < S.size := by
  have h1 : S.data.toList[p + k]? = some x := by rw [← List.getElem?_drop, h]; exact hx
  obtain ⟨hlt, hv⟩ := List.getElem?_eq_some_iff.1 h1
  have hlt' : p + k < S.data.size := by simpa using hlt
  refine ⟨?_, hlt'⟩
  show S.data[p + k]! = x
  rw [getElem!_pos S.data (p + k) hlt']
  simpa using hv
theorem decode3 {S : ByteArray} {p : Nat} {a b c : UInt8} {t : List UInt8} (h : S.data.toList.drop p = a :: b :: c :: t) (h0 : a.toNat / 16 = 14) (h1 : b.toNat / 64 = 2) (h2 : c.toNat / 64 = 2)
    (h3 : 2048 ≤ (a.toNat % 16) * 4096 + (b.toNat % 64) * 64 + c.toNat % 64) (h4 : Utf8.valid (((a.toNat % 16) * 4096 + (b.toNat % 64) * 64 + c.toNat % 64 : Nat) : Int) = true) :
    Utf8.decode S p = ((a.toNat % 16) * 4096 + (b.toNat % 64) * 64 + c.toNat % 64, 3) := by
  obtain ⟨e0, _⟩ := get_drop (k := 0) h rfl
  obtain ⟨e1, l1⟩ := get_drop (k := 1) h rfl
  obtain ⟨e2, l2⟩ := get_drop (k := 2) h rfl
  have g1 : ¬ a.toNat < 128 := by omega
  have g2 : (a.toNat / 32 == 6) = false := by rw [beq_eq_false_iff_ne]; omega
  have g3 : (a.toNat / 16 == 14) = true := by rw [beq_iff_eq]; exact h0
  have g4 : (b.toNat / 64 == 2) = true := by rw [beq_iff_eq]; exact h1
  have g5 : (c.toNat / 64 == 2) = true := by rw [beq_iff_eq]; exact h2
  simp only [Utf8.decode, e0, e1, e2, g1, g2, g3, g4, g5, l1, l2, if_false, Bool.false_and, Bool.true_and, decide_true, if_true, Bool.false_eq_true, ge_iff_le, h3, h4]
theorem decs_three {S : ByteArray} : ∀ (f : Nat) (T : List UInt8) (p : Nat), S.data.toList.drop p = T → T.length ≤ f → ok3 T = true → decs S f p = three T
  | f, [], p, h, _, _ => by
    refine decs_end S f p ?_
    have h1 : S.data.toList.length ≤ p := List.drop_eq_nil_iff.1 h
    have h2 : S.size = S.data.toList.length := (Array.length_toList (xs := S.data)).symm
    omega
  | 0, _ :: _, p, h, hf, _ => by simp at hf
  | f + 1, [a], p, h, _, ho => by simp [ok3] at ho
  | f + 1, [a, b], p, h, _, ho => by simp [ok3] at ho
  | f + 1, a :: b :: c :: t, p, h, hf, ho => by
    simp only [ok3, Bool.and_eq_true, decide_eq_true_eq] at ho
    obtain ⟨⟨⟨⟨⟨h0, h1⟩, h2⟩, h3⟩, h4⟩, h5⟩ := ho
    have hd := decode3 h h0 h1 h2 h3 h4
    have hlt := (get_drop (k := 0) h rfl).2
    rw [decs_at (by simpa using hlt), hd, three]
    refine congrArg _ (decs_three f t (p + 3) ?_ (by simp at hf; omega) h5)
    rw [← List.drop_drop, h]
    rfl
theorem decs_of {S : ByteArray} {T : List UInt8} {l : List Int} (h : S.data.toList = T) (ho : ok3 T = true) (hl : three T = l) : decs S S.size 0 = l := by
  have h2 : S.size = S.data.toList.length := (Array.length_toList (xs := S.data)).symm
  rw [← hl]
  exact decs_three S.size T 0 (by rw [List.drop_zero]; exact h) (by rw [h2, h]; exact Nat.le_refl _) ho
theorem texts_ok : texts.all ok3 = true := by kernel_rfl
theorem texts_are : texts.map three = chars := by kernel_rfl
theorem texts_short : texts.all (fun l => decide (l.length < 1000)) = true := by kernel_rfl
end Go.Proofs.Ytkhcodmcddeakaa.U
