/- The table of what is split, what it says, hexadecimal digits, lines of a text. Plain mathematics. Sorted by class, stable: what it is, and that there is but one such list. Plain mathematics. What a character is split into, and all that comes of that; syllables and their parts. Plain mathematics. What the rows of nfd want besides the words of ..Base. What the test of the search, the search by halves and a row's own method answer. What sort.Search answers, of a test that only draws. What a row's own method answers. What class.Of and class.Mark answer, where the table of spans lies in its variable. -/
import Derived.Test.YtipigfgnpfhdbaaGreatDoorM7
import Derived.Test.YtipigfgnpfhdbaaGreatDoorM1
import Derived.Sort.Grow
import Derived.Deep.Draws
import Derived.Test.YtipigfgnpfhdbaaGreatDoorChecked
import Derived.LoopN
import Derived.Deep.MidRow
import Derived.Shelf.Abstract
namespace Go.Proofs.YtipigfgnpfhdbaaGreatDoor.F
set_option linter.unusedVariables false

/-! Whole, first, second. -/
abbrev Row3 := Int × Int × Int
def tabS0 : List Row3 := [(192, 65, 768), (193, 65, 769), (194, 65, 770), (195, 65, 771), (196, 65, 776), (197, 65, 778), (199, 67, 807), (200, 69, 768), (201, 69, 769), (202, 69, 770), (203, 69, 776), (204, 73, 768), (205, 73, 769), (206, 73, 770), (207, 73, 776), (209, 78, 771), (210, 79, 768), (211, 79, 769), (212, 79, 770), (213, 79, 771), (214, 79, 776), (217, 85, 768), (218, 85, 769), (219, 85, 770), (220, 85, 776), (221, 89, 769), (224, 97, 768), (225, 97, 769), (226, 97, 770), (227, 97, 771), (228, 97, 776), (229, 97, 778), (231, 99, 807), (232, 101, 768), (233, 101, 769), (234, 101, 770), (235, 101, 776), (236, 105, 768), (237, 105, 769), (238, 105, 770), (239, 105, 776), (241, 110, 771), (242, 111, 768), (243, 111, 769), (244, 111, 770), (245, 111, 771), (246, 111, 776), (249, 117, 768), (250, 117, 769), (251, 117, 770), (252, 117, 776), (253, 121, 769), (255, 121, 776), (256, 65, 772), (257, 97, 772), (258, 65, 774), (259, 97, 774), (260, 65, 808), (261, 97, 808), (262, 67, 769), (263, 99, 769), (264, 67, 770), (265, 99, 770), (266, 67, 775)]
def tabS1 : List Row3 := [(267, 99, 775), (268, 67, 780), (269, 99, 780), (270, 68, 780), (271, 100, 780), (274, 69, 772), (275, 101, 772), (276, 69, 774), (277, 101, 774), (278, 69, 775), (279, 101, 775), (280, 69, 808), (281, 101, 808), (282, 69, 780), (283, 101, 780), (284, 71, 770), (285, 103, 770), (286, 71, 774), (287, 103, 774), (288, 71, 775), (289, 103, 775), (290, 71, 807), (292, 72, 770), (293, 104, 770), (296, 73, 771), (297, 105, 771), (298, 73, 772), (299, 105, 772), (300, 73, 774), (301, 105, 774), (302, 73, 808), (303, 105, 808), (304, 73, 775), (308, 74, 770), (309, 106, 770), (310, 75, 807), (311, 107, 807), (313, 76, 769), (314, 108, 769), (315, 76, 807), (316, 108, 807), (323, 78, 769), (324, 110, 769), (325, 78, 807), (326, 110, 807), (327, 78, 780), (328, 110, 780), (332, 79, 772), (333, 111, 772), (334, 79, 774), (335, 111, 774), (336, 79, 779), (337, 111, 779), (340, 82, 769), (341, 114, 769), (342, 82, 807), (343, 114, 807), (344, 82, 780), (345, 114, 780), (346, 83, 769), (347, 115, 769), (348, 83, 770), (349, 115, 770), (350, 83, 807)]
def tabS2 : List Row3 := [(351, 115, 807), (352, 83, 780), (353, 115, 780), (354, 84, 807), (355, 116, 807), (356, 84, 780), (357, 116, 780), (360, 85, 771), (361, 117, 771), (362, 85, 772), (363, 117, 772), (364, 85, 774), (365, 117, 774), (366, 85, 778), (367, 117, 778), (368, 85, 779), (369, 117, 779), (370, 85, 808), (371, 117, 808), (372, 87, 770), (373, 119, 770), (374, 89, 770), (375, 121, 770), (376, 89, 776), (377, 90, 769), (378, 122, 769), (379, 90, 775), (380, 122, 775), (381, 90, 780), (382, 122, 780), (416, 79, 795), (417, 111, 795), (431, 85, 795), (432, 117, 795), (461, 65, 780), (462, 97, 780), (463, 73, 780), (464, 105, 780), (465, 79, 780), (466, 111, 780), (467, 85, 780), (468, 117, 780), (471, 220, 769), (472, 252, 769), (473, 220, 780), (474, 252, 780), (475, 220, 768), (476, 252, 768), (478, 196, 772), (479, 228, 772), (482, 198, 772), (483, 230, 772), (486, 71, 780), (487, 103, 780), (488, 75, 780), (489, 107, 780), (490, 79, 808), (491, 111, 808), (494, 439, 780), (495, 658, 780), (496, 106, 780), (500, 71, 769), (501, 103, 769), (504, 78, 768)]
def tabS3 : List Row3 := [(505, 110, 768), (508, 198, 769), (509, 230, 769), (510, 216, 769), (511, 248, 769), (542, 72, 780), (543, 104, 780), (550, 65, 775), (551, 97, 775), (552, 69, 807), (553, 101, 807), (554, 214, 772), (555, 246, 772), (556, 213, 772), (557, 245, 772), (558, 79, 775), (559, 111, 775), (562, 89, 772), (563, 121, 772), (832, 768, 0), (833, 769, 0), (835, 787, 0), (836, 776, 769), (884, 697, 0), (894, 59, 0), (902, 913, 769), (903, 183, 0), (904, 917, 769), (905, 919, 769), (906, 921, 769), (908, 927, 769), (910, 933, 769), (911, 937, 769), (912, 970, 769), (938, 921, 776), (939, 933, 776), (940, 945, 769), (941, 949, 769), (942, 951, 769), (943, 953, 769), (944, 971, 769), (970, 953, 776), (971, 965, 776), (972, 959, 769), (973, 965, 769), (974, 969, 769), (1024, 1045, 768), (1025, 1045, 776), (1027, 1043, 769), (1031, 1030, 776), (1036, 1050, 769), (1037, 1048, 768), (1038, 1059, 774), (1049, 1048, 774), (1081, 1080, 774), (1104, 1077, 768), (1105, 1077, 776), (1107, 1075, 769), (1111, 1110, 776), (1116, 1082, 769), (1117, 1080, 768), (1118, 1091, 774), (1217, 1046, 774), (1218, 1078, 774)]
def tabS4 : List Row3 := [(1232, 1040, 774), (1233, 1072, 774), (1234, 1040, 776), (1235, 1072, 776), (1238, 1045, 774), (1239, 1077, 774), (1244, 1046, 776), (1245, 1078, 776), (1246, 1047, 776), (1247, 1079, 776), (1250, 1048, 772), (1251, 1080, 772), (1252, 1048, 776), (1253, 1080, 776), (1254, 1054, 776), (1255, 1086, 776), (1260, 1069, 776), (1261, 1101, 776), (1262, 1059, 772), (1263, 1091, 772), (1264, 1059, 776), (1265, 1091, 776), (1268, 1063, 776), (1269, 1095, 776), (1272, 1067, 776), (1273, 1099, 776), (1570, 1575, 1619), (1571, 1575, 1620), (1572, 1608, 1620), (1573, 1575, 1621), (1574, 1610, 1620), (7682, 66, 775), (7683, 98, 775), (7684, 66, 803), (7685, 98, 803), (7686, 66, 817), (7687, 98, 817), (7690, 68, 775), (7691, 100, 775), (7692, 68, 803), (7693, 100, 803), (7694, 68, 817), (7695, 100, 817), (7696, 68, 807), (7697, 100, 807), (7700, 274, 768), (7701, 275, 768), (7710, 70, 775), (7711, 102, 775), (7712, 71, 772), (7713, 103, 772), (7714, 72, 775), (7715, 104, 775), (7716, 72, 803), (7717, 104, 803), (7718, 72, 776), (7719, 104, 776), (7720, 72, 807), (7721, 104, 807), (7728, 75, 769), (7729, 107, 769), (7730, 75, 803), (7731, 107, 803), (7732, 75, 817)]
def tabS5 : List Row3 := [(7733, 107, 817), (7734, 76, 803), (7735, 108, 803), (7738, 76, 817), (7739, 108, 817), (7742, 77, 769), (7743, 109, 769), (7744, 77, 775), (7745, 109, 775), (7746, 77, 803), (7747, 109, 803), (7748, 78, 775), (7749, 110, 775), (7750, 78, 803), (7751, 110, 803), (7752, 78, 817), (7753, 110, 817), (7760, 332, 768), (7761, 333, 768), (7764, 80, 769), (7765, 112, 769), (7766, 80, 775), (7767, 112, 775), (7768, 82, 775), (7769, 114, 775), (7770, 82, 803), (7771, 114, 803), (7774, 82, 817), (7775, 114, 817), (7776, 83, 775), (7777, 115, 775), (7778, 83, 803), (7779, 115, 803), (7786, 84, 775), (7787, 116, 775), (7788, 84, 803), (7789, 116, 803), (7790, 84, 817), (7791, 116, 817), (7804, 86, 771), (7805, 118, 771), (7806, 86, 803), (7807, 118, 803), (7808, 87, 768), (7809, 119, 768), (7810, 87, 769), (7811, 119, 769), (7812, 87, 776), (7813, 119, 776), (7814, 87, 775), (7815, 119, 775), (7816, 87, 803), (7817, 119, 803), (7818, 88, 775), (7819, 120, 775), (7820, 88, 776), (7821, 120, 776), (7822, 89, 775), (7823, 121, 775), (7824, 90, 770), (7825, 122, 770), (7826, 90, 803), (7827, 122, 803), (7828, 90, 817)]
def tabS6 : List Row3 := [(7829, 122, 817), (7830, 104, 817), (7831, 116, 776), (7832, 119, 778), (7833, 121, 778), (7840, 65, 803), (7841, 97, 803), (7842, 65, 777), (7843, 97, 777), (7844, 194, 769), (7845, 226, 769), (7846, 194, 768), (7847, 226, 768), (7848, 194, 777), (7849, 226, 777), (7850, 194, 771), (7851, 226, 771), (7852, 7840, 770), (7853, 7841, 770), (7854, 258, 769), (7855, 259, 769), (7856, 258, 768), (7857, 259, 768), (7858, 258, 777), (7859, 259, 777), (7860, 258, 771), (7861, 259, 771), (7862, 7840, 774), (7863, 7841, 774), (7864, 69, 803), (7865, 101, 803), (7866, 69, 777), (7867, 101, 777), (7868, 69, 771), (7869, 101, 771), (7870, 202, 769), (7871, 234, 769), (7872, 202, 768), (7873, 234, 768), (7874, 202, 777), (7875, 234, 777), (7876, 202, 771), (7877, 234, 771), (7878, 7864, 770), (7879, 7865, 770), (7880, 73, 777), (7881, 105, 777), (7882, 73, 803), (7883, 105, 803), (7884, 79, 803), (7885, 111, 803), (7886, 79, 777), (7887, 111, 777), (7888, 212, 769), (7889, 244, 769), (7890, 212, 768), (7891, 244, 768), (7892, 212, 777), (7893, 244, 777), (7894, 212, 771), (7895, 244, 771), (7896, 7884, 770), (7897, 7885, 770), (7898, 416, 769)]
def tabS7 : List Row3 := [(7899, 417, 769), (7900, 416, 768), (7901, 417, 768), (7902, 416, 777), (7903, 417, 777), (7904, 416, 771), (7905, 417, 771), (7906, 416, 803), (7907, 417, 803), (7908, 85, 803), (7909, 117, 803), (7910, 85, 777), (7911, 117, 777), (7912, 431, 769), (7913, 432, 769), (7914, 431, 768), (7915, 432, 768), (7916, 431, 777), (7917, 432, 777), (7918, 431, 771), (7919, 432, 771), (7920, 431, 803), (7921, 432, 803), (7922, 89, 768), (7923, 121, 768), (7924, 89, 803), (7925, 121, 803), (7926, 89, 777), (7927, 121, 777), (7928, 89, 771), (7929, 121, 771), (7936, 945, 787), (7937, 945, 788), (7952, 949, 787), (7953, 949, 788), (7968, 951, 787), (7969, 951, 788), (7984, 953, 787), (7985, 953, 788), (8000, 959, 787), (8001, 959, 788), (8016, 965, 787), (8017, 965, 788), (8032, 969, 787), (8033, 969, 788), (8048, 945, 768), (8050, 949, 768), (8052, 951, 768), (8054, 953, 768), (8056, 959, 768), (8058, 965, 768), (8060, 969, 768), (8115, 945, 837), (8116, 940, 837), (8118, 945, 834), (8119, 8118, 837), (8131, 951, 837), (8132, 942, 837), (8134, 951, 834), (8135, 8134, 837), (8150, 953, 834), (8164, 961, 787), (8165, 961, 788), (8166, 965, 834)]
def tabS8 : List Row3 := [(8179, 969, 837), (8180, 974, 837), (8182, 969, 834), (8183, 8182, 837), (8486, 937, 0), (8490, 75, 0), (8491, 197, 0), (12364, 12363, 12441), (12366, 12365, 12441), (12368, 12367, 12441), (12370, 12369, 12441), (12372, 12371, 12441), (12374, 12373, 12441), (12376, 12375, 12441), (12378, 12377, 12441), (12380, 12379, 12441), (12382, 12381, 12441), (12384, 12383, 12441), (12386, 12385, 12441), (12389, 12388, 12441), (12391, 12390, 12441), (12393, 12392, 12441), (12400, 12399, 12441), (12401, 12399, 12442), (12403, 12402, 12441), (12404, 12402, 12442), (12406, 12405, 12441), (12407, 12405, 12442), (12409, 12408, 12441), (12410, 12408, 12442), (12412, 12411, 12441), (12413, 12411, 12442), (12460, 12459, 12441), (12462, 12461, 12441), (12464, 12463, 12441), (12466, 12465, 12441), (12468, 12467, 12441), (12470, 12469, 12441), (12472, 12471, 12441), (12474, 12473, 12441), (12476, 12475, 12441), (12478, 12477, 12441), (12480, 12479, 12441), (12482, 12481, 12441), (12485, 12484, 12441), (12487, 12486, 12441), (12489, 12488, 12441), (12496, 12495, 12441), (12497, 12495, 12442), (12499, 12498, 12441), (12500, 12498, 12442), (12502, 12501, 12441), (12503, 12501, 12442), (12505, 12504, 12441), (12506, 12504, 12442), (12508, 12507, 12441), (12509, 12507, 12442), (12532, 12454, 12441), (64302, 1488, 1463), (64303, 1488, 1464)]
def tabS : List Row3 := tabS0 ++ (tabS1 ++ (tabS2 ++ (tabS3 ++ (tabS4 ++ (tabS5 ++ (tabS6 ++ (tabS7 ++ (tabS8))))))))

theorem tabS_len : tabS.length = 572 := by kernel_rfl
/-- Numbers, each greater than the last. -/
def up : List Int → Bool
  | [] => true
  | [_] => true
  | a :: b :: t => decide (a < b) && up (b :: t)
/-- By what the table is sought. -/
def kS (t : Row3) : Int := t.1
theorem upS : up (tabS.map kS) = true := by kernel_rfl
def in16 (t : Row3) : Bool := decide (0 ≤ t.1) && decide (t.1 < 65536) && decide (0 ≤ t.2.1) && decide (t.2.1 < 65536) && decide (0 ≤ t.2.2) && decide (t.2.2 < 65536)
theorem in16S : tabS.all in16 = true := by kernel_rfl
def eq3 (t u : Row3) : Bool := t.1 == u.1 && t.2.1 == u.2.1 && t.2.2 == u.2.2

/-! Hexadecimal digits. -/
def isD (c : Int) : Bool := decide (48 ≤ c) && decide (c ≤ 57) || decide (65 ≤ c) && decide (c ≤ 70)
def val (c : Int) : Int := if c < 58 then c - 48 else c - 55
theorem isD_true {c : Int} : isD c = true ↔ (48 ≤ c ∧ c ≤ 57) ∨ (65 ≤ c ∧ c ≤ 70) := by simp [isD]
def num (l : List Int) : Int := l.foldl (fun a c => 16 * a + val c) 0
theorem num_snoc (l : List Int) (c : Int) : num (l ++ [c]) = 16 * num l + val c := by simp [num]
theorem D_range {c : Int} (h : isD c = true) : 0 ≤ val c ∧ val c < 16 := by
  rw [isD_true] at h; unfold val; split <;> omega
theorem num_range {l : List Int} (hD : ∀ c ∈ l, isD c = true) (h6 : l.length ≤ 6) : 0 ≤ num l ∧ num l < 16777216 := by
  have key : ∀ k (l : List Int), l.length = k → (∀ c ∈ l, isD c = true) → 0 ≤ num l ∧ num l < 16 ^ k := by
    intro k
    induction k with
    | zero => intro l hl _; rw [List.eq_nil_of_length_eq_zero hl]; simp [num]
    | succ k ih =>
      intro l hl hD
      rcases List.eq_nil_or_concat l with rfl | ⟨t, c, rfl⟩
      · simp at hl
      · have h1 := ih t (by simpa using hl) (fun x hx => hD x (by simp [hx]))
        have h2 := D_range (hD c (by simp))
        rw [List.concat_eq_append, num_snoc]
        have h3 : (16 : Int) ^ (k + 1) = 16 * 16 ^ k := by rw [Int.pow_succ]; omega
        omega
  have h := key l.length l rfl hD
  have h2 : (16 : Int) ^ l.length ≤ 16777216 := by
    rcases (show l.length = 0 ∨ l.length = 1 ∨ l.length = 2 ∨ l.length = 3 ∨ l.length = 4 ∨ l.length = 5 ∨ l.length = 6 by omega) with e | e | e | e | e | e | e <;> rw [e] <;> decide
  omega

theorem up_tail {l : List Int} {x : Int} (h : up (x :: l) = true) : up l = true := by
  cases l with
  | nil => rfl
  | cons y t => simp only [up, Bool.and_eq_true] at h; exact h.2
theorem up_head : ∀ (l : List Int) (x : Int), up (x :: l) = true → ∀ y ∈ l, x < y
  | [], x, _, y, hy => by simp at hy
  | z :: l, x, h, y, hy => by
    simp only [up, Bool.and_eq_true, decide_eq_true_eq] at h
    rcases List.mem_cons.1 hy with rfl | hy
    · exact h.1
    · have := up_head l z h.2 y hy
      omega
theorem up_lt : ∀ (l : List Int), up l = true → ∀ (i j : Nat) (a b : Int), l[i]? = some a → l[j]? = some b → i < j → a < b
  | [], _, i, j, a, b, hi, _, _ => by simp at hi
  | x :: t, h, 0, j + 1, a, b, hi, hj, _ => by
    simp at hi hj
    subst hi
    exact up_head t x h b (List.mem_of_getElem? hj)
  | x :: t, h, i + 1, j + 1, a, b, hi, hj, hij => up_lt t (up_tail h) i j a b (by simpa using hi) (by simpa using hj) (by omega)
theorem up_one {l : List Int} (h : up l = true) {i j : Nat} {a : Int} (hi : l[i]? = some a) (hj : l[j]? = some a) : i = j := by
  rcases Nat.lt_trichotomy i j with hlt | he | hlt
  · have := up_lt l h i j a a hi hj hlt; omega
  · exact he
  · have := up_lt l h j i a a hj hi hlt; omega

theorem in16_true {t : Row3} : in16 t = true ↔ 0 ≤ t.1 ∧ t.1 < 65536 ∧ 0 ≤ t.2.1 ∧ t.2.1 < 65536 ∧ 0 ≤ t.2.2 ∧ t.2.2 < 65536 := by simp [in16, and_assoc]
/-- What Split answers. -/
def Spl (r a b n : Int) : Prop := (∃ t ∈ tabS, t.1 = r ∧ t.2.1 = a ∧ t.2.2 = b ∧ n = if b = 0 then 1 else 2) ∨ ((∀ t ∈ tabS, t.1 ≠ r) ∧ a = 0 ∧ b = 0 ∧ n = 0)
theorem spl_any (r : Int) : ∃ a b n, Spl r a b n := by
  by_cases h : ∃ t ∈ tabS, t.1 = r
  · obtain ⟨t, ht, hr⟩ := h
    exact ⟨t.2.1, t.2.2, _, .inl ⟨t, ht, hr, rfl, rfl, rfl⟩⟩
  · exact ⟨0, 0, 0, .inr ⟨fun t ht hr => h ⟨t, ht, hr⟩, rfl, rfl, rfl⟩⟩
theorem eq3_true {t u : Row3} : eq3 t u = true ↔ t = u := by
  obtain ⟨a, b, c⟩ := t
  obtain ⟨d, e, f⟩ := u
  simp [eq3, and_assoc]
theorem spl_n {r a b n : Int} (h : Spl r a b n) : (n = 2 ∧ b ≠ 0) ∨ (n = 1 ∧ b = 0) ∨ (n = 0 ∧ a = 0 ∧ b = 0) := by
  rcases h with ⟨t, ht, _, _, _, hn⟩ | ⟨_, h1, h2, h3⟩
  · by_cases hb : b = 0
    · rw [if_pos hb] at hn; exact .inr (.inl ⟨hn, hb⟩)
    · rw [if_neg hb] at hn; exact .inl ⟨hn, hb⟩
  · exact .inr (.inr ⟨h3, h1, h2⟩)
theorem spl_233 : Spl 233 101 769 2 := .inl ⟨(233, 101, 769), by
  have h : tabS.any (eq3 (233, 101, 769)) = true := by kernel_rfl
  obtain ⟨u, hu, he⟩ := List.any_eq_true.1 h
  obtain rfl := eq3_true.1 he
  exact hu, rfl, rfl, rfl, rfl⟩
/-- What is split is within Unicode; so are its parts. -/
theorem spl_fit {r a b n : Int} (h : Spl r a b n) : 0 ≤ a ∧ a < 65536 ∧ 0 ≤ b ∧ b < 65536 ∧ 0 ≤ n ∧ n ≤ 2 := by
  have hn := spl_n h
  rcases h with ⟨t, ht, _, rfl, rfl, _⟩ | ⟨_, h1, h2, h3⟩
  · have := in16_true.1 (List.all_eq_true.1 in16S t ht)
    omega
  · omega
/-! Lines of a text: fifteen letters each, digits at three places. -/
def d4 (d : List Int) (v : Int) : Bool := d.length == 4 && d.all isD && num d == v
def okLine (l : List Int) (t : Row3) : Bool := l.length == 15 && d4 ((l.drop 1).take 4) t.1 && d4 ((l.drop 6).take 4) t.2.1 && d4 ((l.drop 11).take 4) t.2.2
def okL : List Int → List Row3 → Bool
  | l, [] => l.isEmpty
  | l, t :: rows => okLine (l.take 15) t && okL (l.drop 15) rows
theorem okL_len : ∀ (rows : List Row3) (l : List Int), okL l rows = true → l.length = rows.length * 15
  | [], l, h => by simp [okL] at h; simp [h]
  | t :: rows, l, h => by
    simp only [okL, Bool.and_eq_true] at h
    have h1 := okL_len rows _ h.2
    have h2 : (l.take 15).length = 15 := by
      have := h.1
      simp only [okLine, Bool.and_eq_true] at this
      exact eq_of_beq this.1.1.1
    simp only [List.length_drop, List.length_take, List.length_cons] at h1 h2 ⊢
    omega
theorem okL_at : ∀ (rows : List Row3) (l : List Int), okL l rows = true → ∀ (i : Nat) (t : Row3), rows[i]? = some t → okLine ((l.drop (i * 15)).take 15) t = true
  | [], l, h, i, t, hi => by simp at hi
  | u :: rows, l, h, 0, t, hi => by
    simp only [okL, Bool.and_eq_true] at h
    simp at hi
    subst hi
    simpa using h.1
  | u :: rows, l, h, i + 1, t, hi => by
    simp only [okL, Bool.and_eq_true] at h
    have := okL_at rows _ h.2 i t (by simpa using hi)
    rw [List.drop_drop] at this
    rw [show (i + 1) * 15 = 15 + i * 15 by omega]
    exact this
theorem d4_true {d : List Int} {v : Int} (h : d4 d v = true) : d.length = 4 ∧ (∀ c ∈ d, isD c = true) ∧ num d = v := by
  simp only [d4, Bool.and_eq_true, List.all_eq_true] at h
  exact ⟨eq_of_beq h.1.1, h.1.2, eq_of_beq h.2⟩
end Go.Proofs.YtipigfgnpfhdbaaGreatDoor.F
namespace Go.Proofs.YtipigfgnpfhdbaaGreatDoor.F
set_option linter.unusedVariables false

/-- Starters, and the marks of class k. -/
def pi (k : Int) (l : List Int) : List Int := l.filter fun c => cls c == 0 || cls c == k
/-- The same characters; those of one class, and starters among them, in their order. -/
def St (l l' : List Int) : Prop := l'.Perm l ∧ ∀ k, 0 < k → pi k l' = pi k l
/-- No mark stands behind a mark of a greater class. -/
def Srt (l : List Int) : Prop := ∀ i a b, l[i]? = some a → l[i + 1]? = some b → 0 < cls b → cls a ≤ cls b
def Ord (l l' : List Int) : Prop := St l l' ∧ Srt l'

theorem pi_append (k : Int) (a b : List Int) : pi k (a ++ b) = pi k a ++ pi k b := by simp [pi]
theorem pi_cons (k c : Int) (l : List Int) : pi k (c :: l) = if cls c = 0 ∨ cls c = k then c :: pi k l else pi k l := by
  unfold pi
  rw [List.filter_cons]
  by_cases h : cls c = 0 ∨ cls c = k
  · rw [if_pos h, if_pos (by simpa using h)]
  · rw [if_neg h, if_neg (by simpa using h)]
theorem St.refl (l : List Int) : St l l := ⟨List.Perm.refl _, fun _ _ => rfl⟩
theorem St.trans {a b c : List Int} (h : St a b) (g : St b c) : St a c := ⟨g.1.trans h.1, fun k hk => (g.2 k hk).trans (h.2 k hk)⟩
theorem St.symm {a b : List Int} (h : St a b) : St b a := ⟨h.1.symm, fun k hk => (h.2 k hk).symm⟩
theorem St.append {a b c d : List Int} (h : St a b) (g : St c d) : St (a ++ c) (b ++ d) :=
  ⟨h.1.append g.1, fun k hk => by rw [pi_append, pi_append, h.2 k hk, g.2 k hk]⟩
theorem St.length {a b : List Int} (h : St a b) : b.length = a.length := h.1.length_eq
theorem St.mem {a b : List Int} (h : St a b) {x : Int} : x ∈ b ↔ x ∈ a := h.1.mem_iff
/-- Marks of which no two are of one class change about. -/
theorem St.rot {x y : List Int} (hx : ∀ a ∈ x, 0 < cls a) (hy : ∀ b ∈ y, 0 < cls b) (h : ∀ a ∈ x, ∀ b ∈ y, cls a ≠ cls b) : St (x ++ y) (y ++ x) := by
  refine ⟨List.perm_append_comm, fun k hk => ?_⟩
  rw [pi_append, pi_append]
  by_cases hm : ∃ a ∈ x, cls a = k
  · obtain ⟨a, ha, hak⟩ := hm
    have : pi k y = [] := List.filter_eq_nil_iff.2 fun b hb => by
      have h1 := h a ha b hb
      have h2 := hy b hb
      simp
      omega
    rw [this]; simp
  · have : pi k x = [] := List.filter_eq_nil_iff.2 fun a ha => by
      have h1 := hx a ha
      have h2 : cls a ≠ k := fun e => hm ⟨a, ha, e⟩
      simp
      omega
    rw [this]; simp
theorem St.swap {a b : Int} (p t : List Int) (ha : 0 < cls a) (hb : 0 < cls b) (h : cls a ≠ cls b) : St (p ++ a :: b :: t) (p ++ b :: a :: t) := by
  have h1 : St ([a] ++ [b]) ([b] ++ [a]) := St.rot (by simpa using ha) (by simpa using hb) (by simpa using h)
  have h2 := (St.refl p).append (h1.append (St.refl t))
  simpa using h2

theorem Srt.tail {a : Int} {l : List Int} (h : Srt (a :: l)) : Srt l := fun i x y hx hy hp => h (i + 1) x y (by simpa using hx) (by simpa using hy) hp
theorem Srt.nil : Srt [] := fun i a b h => by simp at h
theorem cls_nn (c : Int) : 0 ≤ cls c := (cls_range c).1

theorem head_le : ∀ (t : List Int) (y x j : Int) (s : List Int), Srt (y :: t) → 0 < cls y → 0 < j → pi j t = x :: s → cls x = j → cls y ≤ j
  | [], y, x, j, s, _, _, _, h, _ => by simp [pi] at h
  | z :: t, y, x, j, s, hs, hy, hj, h, hx => by
    rw [pi_cons] at h
    by_cases hz0 : cls z = 0
    · rw [if_pos (.inl hz0)] at h
      obtain rfl := (List.cons.inj h).1
      omega
    · have hz := cls_nn z
      have h1 := hs 0 y z (by simp) (by simp) (by omega)
      by_cases hzj : cls z = j
      · omega
      · rw [if_neg (by omega)] at h
        have := head_le t z x j s hs.tail (by omega) hj h hx
        omega

theorem pi_nil {l : List Int} (h : ∀ k, 0 < k → pi k l = []) : l = [] := by
  cases l with
  | nil => rfl
  | cons y t =>
    exfalso
    have hy := cls_nn y
    by_cases h0 : cls y = 0
    · have := h 1 (by omega)
      rw [pi_cons, if_pos (.inl h0)] at this
      cases this
    · have := h (cls y) (by omega)
      rw [pi_cons, if_pos (.inr rfl)] at this
      cases this

/-- There is but one. -/
theorem srt_one : ∀ (l l' : List Int), Srt l → Srt l' → (∀ k, 0 < k → pi k l = pi k l') → l = l'
  | [], l', _, _, h => (pi_nil fun k hk => (h k hk).symm).symm
  | x :: t, [], _, _, h => pi_nil h
  | x :: t, y :: t', hs, hs', h => by
    have hx := cls_nn x
    have hy := cls_nn y
    have fin : x = y → x :: t = y :: t' := fun e => by
      subst e
      congr 1
      refine srt_one t t' hs.tail hs'.tail fun k hk => ?_
      have := h k hk
      rw [pi_cons, pi_cons] at this
      by_cases hc : cls x = 0 ∨ cls x = k
      · rw [if_pos hc, if_pos hc] at this
        exact (List.cons.inj this).2
      · rwa [if_neg hc, if_neg hc] at this
    by_cases hx0 : cls x = 0
    · by_cases hy0 : cls y = 0
      · have := h 1 (by omega)
        rw [pi_cons, pi_cons, if_pos (.inl hx0), if_pos (.inl hy0)] at this
        exact fin (List.cons.inj this).1
      · have := h (cls y) (by omega)
        rw [pi_cons, pi_cons, if_pos (.inl hx0), if_pos (.inr rfl)] at this
        exact fin (List.cons.inj this).1
    · by_cases hy0 : cls y = 0
      · have := h (cls x) (by omega)
        rw [pi_cons, pi_cons, if_pos (.inr rfl), if_pos (.inl hy0)] at this
        exact fin (List.cons.inj this).1
      · by_cases hxy : cls x = cls y
        · have := h (cls x) (by omega)
          rw [pi_cons, pi_cons, if_pos (.inr rfl), if_pos (.inr hxy.symm)] at this
          exact fin (List.cons.inj this).1
        · exfalso
          have h1 := h (cls x) (by omega)
          rw [pi_cons, pi_cons, if_pos (.inr rfl), if_neg (by omega)] at h1
          have h2 := h (cls y) (by omega)
          rw [pi_cons, pi_cons, if_neg (by omega), if_pos (.inr rfl)] at h2
          have g1 := head_le t' y x (cls x) _ hs' (by omega) (by omega) h1.symm rfl
          have g2 := head_le t x y (cls y) _ hs (by omega) (by omega) h2 rfl
          omega
theorem ord_one {l a b : List Int} (h : Ord l a) (g : Ord l b) : a = b := srt_one a b h.2 g.2 fun k hk => (h.1.2 k hk).trans (g.1.2 k hk).symm
theorem ord_self {l : List Int} (h : Srt l) : Ord l l := ⟨St.refl l, h⟩
theorem Ord.of_st {l m a : List Int} (h : Ord l a) (g : St l m) : Ord m a := ⟨g.symm.trans h.1, h.2⟩

/-- What begins with a starter stands by itself. -/
theorem srt_append {a b : List Int} (ha : Srt a) (hb : Srt b) (h : ∀ y, b[0]? = some y → cls y = 0) : Srt (a ++ b) := fun i x y hx hy hp => by
  by_cases h1 : i + 1 < a.length
  · rw [List.getElem?_append_left (by omega)] at hx
    rw [List.getElem?_append_left h1] at hy
    exact ha i x y hx hy hp
  · rw [List.getElem?_append_right (by omega)] at hy
    by_cases h2 : i < a.length
    · rw [show i + 1 - a.length = 0 by omega] at hy
      have := h y hy
      omega
    · rw [List.getElem?_append_right (by omega)] at hx
      rw [show i + 1 - a.length = (i - a.length) + 1 by omega] at hy
      exact hb _ x y hx hy hp
theorem ord_append {a b x y : List Int} (h : Ord a x) (g : Ord b y) (h0 : ∀ c, y[0]? = some c → cls c = 0) : Ord (a ++ b) (x ++ y) := ⟨h.1.append g.1, srt_append h.2 g.2 h0⟩

/-! Marks alone: sorted. -/
def Sd (l : List Int) : Prop := List.Pairwise (fun a b => cls a ≤ cls b) l
def Mk (l : List Int) : Prop := ∀ a ∈ l, 0 < cls a
theorem Sd.srt {l : List Int} (h : Sd l) : Srt l := fun i a b ha hb _ => by
  obtain ⟨h1, rfl⟩ := List.getElem?_eq_some_iff.1 ha
  obtain ⟨h2, rfl⟩ := List.getElem?_eq_some_iff.1 hb
  exact List.pairwise_iff_getElem.1 h i (i + 1) h1 h2 (by omega)
theorem Sd.at {l : List Int} (h : Sd l) {i j : Nat} {a b : Int} (ha : l[i]? = some a) (hb : l[j]? = some b) (hij : i ≤ j) : cls a ≤ cls b := by
  obtain ⟨h1, rfl⟩ := List.getElem?_eq_some_iff.1 ha
  obtain ⟨h2, rfl⟩ := List.getElem?_eq_some_iff.1 hb
  rcases Nat.lt_or_eq_of_le hij with h3 | rfl
  · exact List.pairwise_iff_getElem.1 h i j h1 h2 h3
  · exact Int.le_refl _
theorem sd_of_at {l : List Int} (h : ∀ (i j : Nat) (a b : Int), l[i]? = some a → l[j]? = some b → i < j → cls a ≤ cls b) : Sd l :=
  List.pairwise_iff_getElem.2 fun i j hi hj hij => h i j _ _ (by simp) (by simp) hij
theorem sd_nil : Sd [] := List.Pairwise.nil
theorem sd_one (a : Int) : Sd [a] := List.pairwise_singleton _ _
theorem sd_append {a b : List Int} : Sd (a ++ b) ↔ Sd a ∧ Sd b ∧ ∀ x ∈ a, ∀ y ∈ b, cls x ≤ cls y := List.pairwise_append
theorem Mk.append {a b : List Int} (h : Mk a) (g : Mk b) : Mk (a ++ b) := fun x hx => (List.mem_append.1 hx).elim (h x) (g x)
theorem Mk.left {a b : List Int} (h : Mk (a ++ b)) : Mk a := fun x hx => h x (List.mem_append_left _ hx)
theorem Mk.right {a b : List Int} (h : Mk (a ++ b)) : Mk b := fun x hx => h x (List.mem_append_right _ hx)
theorem Mk.st {a b : List Int} (h : Mk a) (g : St a b) : Mk b := fun x hx => h x (g.mem.1 hx)

/-! How far from sorted: what the reference's turns make less. -/
def far : List Int → Nat
  | [] => 0
  | c :: t => (cls c).toNat * (t.length + 1) + far t
theorem far_swap {a b : Int} (h : cls b < cls a) : ∀ (p t : List Int), far (p ++ b :: a :: t) < far (p ++ a :: b :: t)
  | [], t => by
    have h1 := cls_nn a
    have h2 := cls_nn b
    simp only [List.nil_append, far, List.length_cons]
    have h3 : (cls b).toNat < (cls a).toNat := by omega
    obtain ⟨d, hd⟩ : ∃ d, (cls a).toNat = (cls b).toNat + d + 1 := ⟨(cls a).toNat - (cls b).toNat - 1, by omega⟩
    rw [hd]
    have e1 : ((cls b).toNat + d + 1) * (t.length + 1 + 1) = ((cls b).toNat + d + 1) * (t.length + 1) + ((cls b).toNat + d + 1) := Nat.mul_succ _ _
    have e2 : (cls b).toNat * (t.length + 1 + 1) = (cls b).toNat * (t.length + 1) + (cls b).toNat := Nat.mul_succ _ _
    omega
  | c :: p, t => by
    have ih := far_swap h p t
    have e : (p ++ b :: a :: t).length = (p ++ a :: b :: t).length := by simp
    simp only [List.cons_append, far, e]
    omega
end Go.Proofs.YtipigfgnpfhdbaaGreatDoor.F
namespace Go.Proofs.YtipigfgnpfhdbaaGreatDoor.F
set_option linter.unusedVariables false

/-- A syllable's parts. -/
def parts (r : Int) : List Int :=
  if 44032 ≤ r ∧ r < 55204 then
    if (r - 44032) % 28 = 0 then [4352 + (r - 44032) / 588, 4449 + (r - 44032) % 588 / 28]
    else [4352 + (r - 44032) / 588, 4449 + (r - 44032) % 588 / 28, 4519 + (r - 44032) % 28]
  else []
theorem parts_no {r : Int} (h : r < 44032 ∨ 55204 ≤ r) : parts r = [] := by
  unfold parts; rw [if_neg (by omega)]
theorem parts_two {r : Int} (h0 : 44032 ≤ r) (h1 : r < 55204) (h : (r - 44032) % 28 = 0) : parts r = [4352 + (r - 44032) / 588, 4449 + (r - 44032) % 588 / 28] := by
  unfold parts; rw [if_pos ⟨h0, h1⟩, if_pos h]
theorem parts_three {r : Int} (h0 : 44032 ≤ r) (h1 : r < 55204) (h : 0 < (r - 44032) % 28) : parts r = [4352 + (r - 44032) / 588, 4449 + (r - 44032) % 588 / 28, 4519 + (r - 44032) % 28] := by
  unfold parts; rw [if_pos ⟨h0, h1⟩, if_neg (by omega)]
theorem parts_len (r : Int) : (parts r).length ≤ 3 ∧ (0 < (parts r).length ↔ (44032 ≤ r ∧ r < 55204)) := by
  by_cases h0 : 44032 ≤ r ∧ r < 55204
  · obtain ⟨h0, h1⟩ := h0
    by_cases ht : (r - 44032) % 28 = 0
    · rw [parts_two h0 h1 ht]; simp; omega
    · rw [parts_three h0 h1 (by omega)]; simp; omega
  · rw [parts_no (by omega)]; simp; omega
theorem parts_mem {r p : Int} (h : p ∈ parts r) : 4352 ≤ p ∧ p ≤ 4546 ∧ 44032 ≤ r ∧ r < 55204 := by
  by_cases h0 : 44032 ≤ r ∧ r < 55204
  · obtain ⟨h0, h1⟩ := h0
    by_cases ht : (r - 44032) % 28 = 0
    · rw [parts_two h0 h1 ht] at h
      simp at h
      omega
    · rw [parts_three h0 h1 (by omega)] at h
      simp at h
      omega
  · rw [parts_no (by omega)] at h; simp at h

/-- What a character is split into, once; none if it is not. -/
def pts (c : Int) : List Int := match tabS.find? (fun t => t.1 == c) with
  | some t => if t.2.2 = 0 then [t.2.1] else [t.2.1, t.2.2]
  | none => parts c
theorem find_mem {c : Int} {t : Row3} (ht : t ∈ tabS) (hc : t.1 = c) : ∃ u ∈ tabS, u.1 = c ∧ tabS.find? (fun t => t.1 == c) = some u := by
  cases h : tabS.find? (fun t => t.1 == c) with
  | none => exact absurd (List.find?_eq_none.1 h t ht) (by simp [hc])
  | some u => exact ⟨u, List.mem_of_find?_eq_some h, by simpa using List.find?_some h, rfl⟩
theorem key_one {t u : Row3} (ht : t ∈ tabS) (hu : u ∈ tabS) (h : t.1 = u.1) : t = u := by
  obtain ⟨i, hi⟩ := List.getElem?_of_mem ht
  obtain ⟨j, hj⟩ := List.getElem?_of_mem hu
  have := up_one upS (i := i) (j := j) (a := t.1) (by rw [List.getElem?_map, hi]; rfl) (by rw [List.getElem?_map, hj, h]; rfl)
  subst this
  exact Option.some.inj (hi.symm.trans hj)
/-- What Split answers says what the parts are. -/
theorem spl_pts {c a b n : Int} (h : Spl c a b n) : (n = 1 ∧ pts c = [a]) ∨ (n = 2 ∧ pts c = [a, b]) ∨ (n = 0 ∧ pts c = parts c) := by
  rcases h with ⟨t, ht, rfl, rfl, rfl, hn⟩ | ⟨h, rfl, rfl, rfl⟩
  · obtain ⟨u, hu, he, hf⟩ := find_mem ht rfl
    obtain rfl := key_one hu ht he
    unfold pts
    rw [hf]
    dsimp only
    by_cases hb : u.2.2 = 0
    · rw [if_pos hb] at hn ⊢
      exact .inl ⟨hn, rfl⟩
    · rw [if_neg hb] at hn ⊢
      exact .inr (.inl ⟨hn, rfl⟩)
  · right; right
    refine ⟨rfl, ?_⟩
    unfold pts
    rw [List.find?_eq_none.2 fun t ht => by simpa using h t ht]
theorem pts_key {t : Row3} (ht : t ∈ tabS) : pts t.1 ≠ [] := by
  obtain ⟨u, hu, he, hf⟩ := find_mem ht rfl
  unfold pts
  rw [hf]
  dsimp only
  split <;> simp

/-! What the kernel checks of the table. -/
/-- The second ones. -/
def secs : List Int := [768, 769, 770, 771, 772, 774, 775, 776, 777, 778, 779, 780, 795, 803, 807, 808, 817, 834, 837, 787, 788, 1619, 1620, 1621, 12441, 12442, 1463, 1464]
/-- First ones: those that are split again; those that are not. -/
def mids : List Int := [194, 196, 197, 202, 212, 213, 214, 220, 226, 228, 234, 244, 245, 246, 252, 258, 259, 274, 275, 332, 333, 416, 417, 431, 432, 940, 942, 970, 971, 974, 7840, 7841, 7864, 7865, 7884, 7885, 8118, 8134, 8182]
def ends : List Int := [59, 65, 66, 67, 68, 69, 70, 71, 72, 73, 74, 75, 76, 77, 78, 79, 80, 82, 83, 84, 85, 86, 87, 88, 89, 90, 97, 98, 99, 100, 101, 102, 103, 104, 105, 106, 107, 108, 109, 110, 111, 112, 114, 115, 116, 117, 118, 119, 120, 121, 122, 183, 198, 216, 230, 248, 439, 658, 697, 768, 769, 776, 787, 913, 917, 919, 921, 927, 933, 937, 945, 949, 951, 953, 959, 961, 965, 969, 1030, 1040, 1043, 1045, 1046, 1047, 1048, 1050, 1054, 1059, 1063, 1067, 1069, 1072, 1075, 1077, 1078, 1079, 1080, 1082, 1086, 1091, 1095, 1099, 1101, 1110, 1488, 1575, 1608, 1610, 12363, 12365, 12367, 12369, 12371, 12373, 12375, 12377, 12379, 12381, 12383, 12385, 12388, 12390, 12392, 12399, 12402, 12405, 12408, 12411, 12454, 12459, 12461, 12463, 12465, 12467, 12469, 12471, 12473, 12475, 12477, 12479, 12481, 12484, 12486, 12488, 12495, 12498, 12501, 12504, 12507]
def lineA (t : Row3) : Bool := (t.2.2 == 0 || secs.contains t.2.2) && (ends.contains t.2.1 || (mids.contains t.2.1 && !mids.contains t.1)) && !(decide (4352 ≤ t.1) && decide (t.1 ≤ 4546))
theorem linesA : tabS.all lineA = true := by kernel_rfl
theorem secs_free : (secs ++ ends).all (fun s => (tabS.all fun t => !(t.1 == s)) && decide (s < 44032)) = true := by kernel_rfl
theorem lineA_true {t : Row3} (ht : t ∈ tabS) : (t.2.2 = 0 ∨ t.2.2 ∈ secs) ∧ (t.2.1 ∈ ends ∨ (t.2.1 ∈ mids ∧ ¬ t.1 ∈ mids)) ∧ (t.1 < 4352 ∨ 4546 < t.1) := by
  have := List.all_eq_true.1 linesA t ht
  simpa [lineA, and_assoc] using this
theorem pts_none {c : Int} (h : ∀ t ∈ tabS, t.1 ≠ c) : pts c = parts c := by
  unfold pts
  rw [List.find?_eq_none.2 fun t ht => by simpa using h t ht]
theorem sec_free {s : Int} (h : s ∈ secs ++ ends) : pts s = [] := by
  have := List.all_eq_true.1 secs_free s h
  rw [Bool.and_eq_true, List.all_eq_true] at this
  rw [pts_none fun t ht e => by have := this.1 t ht; simp [e] at this, parts_no]
  left
  simpa using this.2
theorem part_free {p : Int} (h : 4352 ≤ p ∧ p ≤ 4546) : pts p = [] := by
  rw [pts_none fun t ht e => by have := (lineA_true ht).2.2; omega, parts_no (by omega)]

/-- How far a character is from its end. -/
def mu (c : Int) : Nat := if pts c = [] then 0 else if c ∈ mids then 1 else 2
theorem mu_free {c : Int} (h : pts c = []) : mu c = 0 := by unfold mu; rw [if_pos h]
theorem mu_not {c : Int} (h : pts c ≠ []) : ∃ m, mu c = m + 1 := by
  unfold mu; rw [if_neg h]
  split
  · exact ⟨0, rfl⟩
  · exact ⟨1, rfl⟩
theorem mu_two {c : Int} (h : pts c ≠ []) (hm : ¬ c ∈ mids) : mu c = 2 := by unfold mu; rw [if_neg h, if_neg hm]
theorem mu_mid {c : Int} (hm : c ∈ mids) : mu c ≤ 1 := by unfold mu; rw [if_pos hm]; split <;> omega
theorem mu_le (c : Int) : mu c ≤ 2 := by unfold mu; split <;> (try split) <;> omega
/-- Three ways: a line of the table, a syllable, or not split. -/
theorem pts_ways (c : Int) : (∃ t ∈ tabS, t.1 = c ∧ ((t.2.2 = 0 ∧ pts c = [t.2.1]) ∨ (t.2.2 ∈ secs ∧ pts c = [t.2.1, t.2.2]))) ∨ (pts c = parts c ∧ 44032 ≤ c ∧ c < 55204) ∨ (pts c = [] ∧ parts c = []) := by
  by_cases h : ∃ t ∈ tabS, t.1 = c
  · obtain ⟨t, ht, rfl⟩ := h
    left
    refine ⟨t, ht, rfl, ?_⟩
    obtain ⟨u, hu, he, hf⟩ := find_mem ht rfl
    obtain rfl := key_one hu ht he
    have hl := lineA_true ht
    unfold pts
    rw [hf]
    dsimp only
    by_cases hb : u.2.2 = 0
    · rw [if_pos hb]; exact .inl ⟨hb, rfl⟩
    · rw [if_neg hb]; exact .inr ⟨hl.1.resolve_left hb, rfl⟩
  · have h1 := pts_none fun t ht e => h ⟨t, ht, e⟩
    right
    by_cases h2 : 44032 ≤ c ∧ c < 55204
    · exact .inl ⟨h1, h2⟩
    · rw [h1, parts_no (by omega)]; exact .inr ⟨rfl, rfl⟩
theorem mu_first {t : Row3} (ht : t ∈ tabS) : mu t.2.1 < mu t.1 := by
  have hne := pts_key ht
  obtain ⟨m, hm⟩ := mu_not hne
  rcases (lineA_true ht).2.1 with h | ⟨h, h'⟩
  · rw [mu_free (sec_free (List.mem_append_right _ h))]; omega
  · have := mu_mid h
    rw [mu_two hne h']; omega
theorem mids_small : mids.all (fun m => decide (m < 44032)) = true := by kernel_rfl
theorem syl_not {c : Int} (h : 44032 ≤ c) : ¬ c ∈ mids := fun hm => by
  have := List.all_eq_true.1 mids_small c hm
  simp at this
  omega
theorem mu_lt {c p : Int} (h : p ∈ pts c) : mu p < mu c := by
  have hne : pts c ≠ [] := fun e => by rw [e] at h; simp at h
  obtain ⟨m, hm⟩ := mu_not hne
  rcases pts_ways c with ⟨t, ht, rfl, ⟨_, e⟩ | ⟨hs, e⟩⟩ | ⟨e, h1, h2⟩ | ⟨e, _⟩
  · rw [e] at h
    simp at h
    subst h
    exact mu_first ht
  · rw [e] at h
    simp at h
    rcases h with rfl | rfl
    · exact mu_first ht
    · rw [mu_free (sec_free (List.mem_append_left _ hs))]; omega
  · rw [e] at h
    have := parts_mem h
    rw [mu_free (part_free (by omega))]; omega
  · exact absurd e hne

/-- All that comes of a character. -/
def apN : Nat → Int → List Int
  | 0, c => [c]
  | n + 1, c => if pts c = [] then [c] else (pts c).flatMap (apN n)
def ap (c : Int) : List Int := apN (mu c) c
theorem apN_free {c : Int} (h : pts c = []) : ∀ n, apN n c = [c]
  | 0 => rfl
  | n + 1 => by simp only [apN]; rw [if_pos h]
theorem flat_congr {l : List Int} {f g : Int → List Int} (h : ∀ p ∈ l, f p = g p) : l.flatMap f = l.flatMap g := by
  unfold List.flatMap
  rw [List.map_congr_left h]
theorem apN_ge : ∀ (k : Nat) (c : Int), mu c ≤ k → apN k c = ap c := by
  intro k
  induction k using Nat.strongRecOn with
  | _ k ih =>
    intro c h
    by_cases hp : pts c = []
    · unfold ap
      rw [apN_free hp, apN_free hp]
    · obtain ⟨m, hm⟩ := mu_not hp
      obtain ⟨k', rfl⟩ : ∃ k', k = k' + 1 := ⟨k - 1, by omega⟩
      unfold ap
      rw [hm]
      simp only [apN]
      rw [if_neg hp, if_neg hp]
      refine flat_congr fun q hq => ?_
      have h1 := mu_lt hq
      rw [ih k' (by omega) q (by omega)]
      rcases Nat.lt_or_eq_of_le (show m + 1 ≤ k' + 1 by omega) with hlt | he
      · rw [ih m (by omega) q (by omega)]
      · rw [show m = k' by omega, ih k' (by omega) q (by omega)]
theorem ap_free {c : Int} (h : pts c = []) : ap c = [c] := apN_free h _
theorem ap_split {c : Int} (h : pts c ≠ []) : ap c = (pts c).flatMap ap := by
  obtain ⟨m, hm⟩ := mu_not h
  have e : ap c = apN (m + 1) c := by unfold ap; rw [hm]
  rw [e]
  simp only [apN]
  rw [if_neg h]
  exact flat_congr fun p hp => apN_ge m p (by have := mu_lt hp; omega)
/-- Nothing that is split is left. -/
theorem ap_end (c : Int) : ∀ x ∈ ap c, pts x = [] := by
  generalize hn : mu c = n
  induction n using Nat.strongRecOn generalizing c with
  | _ n ih =>
    intro x hx
    by_cases h : pts c = []
    · rw [ap_free h] at hx
      simp at hx
      rw [hx, h]
    · rw [ap_split h] at hx
      obtain ⟨p, hp, hx⟩ := List.mem_flatMap.1 hx
      exact ih (mu p) (by have := mu_lt hp; omega) p rfl x hx
theorem ap_pos (c : Int) : 1 ≤ (ap c).length := by
  generalize hn : mu c = n
  induction n using Nat.strongRecOn generalizing c with
  | _ n ih =>
    by_cases h : pts c = []
    · rw [ap_free h]; simp
    · rw [ap_split h]
      obtain ⟨p, l, hl⟩ : ∃ p l, pts c = p :: l := by
        cases hq : pts c with
        | nil => exact absurd hq h
        | cons p l => exact ⟨p, l, rfl⟩
      have := ih (mu p) (by have := mu_lt (c := c) (p := p) (by rw [hl]; simp); omega) p rfl
      rw [hl, List.flatMap_cons, List.length_append]
      omega
theorem ap_len (c : Int) : (ap c).length ≤ mu c + 1 := by
  generalize hn : mu c = n
  induction n using Nat.strongRecOn generalizing c with
  | _ n ih =>
    by_cases h : pts c = []
    · rw [ap_free h]; simp
    · rcases pts_ways c with ⟨t, ht, rfl, ⟨_, e⟩ | ⟨hs, e⟩⟩ | ⟨e, h1, h2⟩ | ⟨e, _⟩
      · have h1 := mu_first ht
        have := ih (mu t.2.1) (by omega) t.2.1 rfl
        rw [ap_split h, e]
        simp
        omega
      · have h1 := mu_first ht
        have := ih (mu t.2.1) (by omega) t.2.1 rfl
        rw [ap_split h, e]
        simp [ap_free (sec_free (List.mem_append_left _ hs))]
        omega
      · have h5 := mu_two h (syl_not h1)
        rw [ap_split h, e]
        have h3 := (parts_len c).1
        have h4 : (parts c).flatMap ap = parts c := by
          rw [flat_congr (g := fun p => [p]) fun p hp => ap_free (part_free (by have := parts_mem hp; omega))]
          simp
        rw [h4]
        omega
      · exact absurd e h
theorem ap_max (c : Int) : (ap c).length ≤ 3 := by
  have h := ap_len c
  have := mu_le c
  omega

/-! A text. -/
def apL (l : List Int) : List Int := l.flatMap ap
theorem apL_append (a b : List Int) : apL (a ++ b) = apL a ++ apL b := by simp [apL]
theorem apL_cons (c : Int) (l : List Int) : apL (c :: l) = ap c ++ apL l := by simp [apL]
theorem apL_nil : apL [] = [] := rfl
theorem apL_end {l : List Int} {x : Int} (h : x ∈ apL l) : pts x = [] := by
  obtain ⟨c, _, hx⟩ := List.mem_flatMap.1 h
  exact ap_end c x hx
theorem apL_free {l : List Int} (h : ∀ x ∈ l, pts x = []) : apL l = l := by
  induction l with
  | nil => rfl
  | cons a l ih => rw [apL_cons, ap_free (h a (by simp)), ih fun x hx => h x (by simp [hx])]; rfl
theorem apL_ge (l : List Int) : l.length ≤ (apL l).length := by
  induction l with
  | nil => simp [apL]
  | cons a l ih => rw [apL_cons, List.length_append, List.length_cons]; have := ap_pos a; omega
theorem apL_max (l : List Int) : (apL l).length ≤ 3 * l.length := by
  induction l with
  | nil => simp [apL]
  | cons a l ih => rw [apL_cons, List.length_append, List.length_cons]; have := ap_max a; omega
theorem apL_nonempty {l : List Int} (h : l ≠ []) : apL l ≠ [] := fun e => by
  have := apL_ge l
  rw [e] at this
  exact h (List.eq_nil_of_length_eq_zero (by simpa using this))

/-- The twelve that the reference splits. -/
def twelve : List (Int × Int × Int × Int) := [(832, 768, 0, 1), (833, 769, 0, 1), (835, 787, 0, 1), (836, 776, 769, 2), (884, 697, 0, 1), (894, 59, 0, 1), (903, 183, 0, 1), (8486, 937, 0, 1), (8490, 75, 0, 1), (8491, 197, 0, 1), (64302, 1488, 1463, 2), (64303, 1488, 1464, 2)]
theorem twelve_in : twelve.all (fun t => tabS.any fun u => u.1 == t.1) = true := by kernel_rfl
theorem twelve_split {t : Int × Int × Int × Int} (h : t ∈ twelve) : pts t.1 ≠ [] := by
  have := List.all_eq_true.1 twelve_in t h
  obtain ⟨u, hu, he⟩ := List.any_eq_true.1 this
  have e : u.1 = t.1 := by simpa using he
  rw [← e]
  exact pts_key hu
/-- Marks that are split are among the twelve. -/
def lineM (t : Row3) : Bool := cls t.1 == 0 || twelve.any fun u => u.1 == t.1
theorem linesM : tabS.all lineM = true := by kernel_rfl
theorem mark_free {c : Int} (h : 0 < cls c) (hn : ∀ t ∈ twelve, t.1 ≠ c) : pts c = [] := by
  rcases pts_ways c with ⟨t, ht, rfl, _⟩ | ⟨e, h1, h2⟩ | ⟨e, _⟩
  · exfalso
    have := List.all_eq_true.1 linesM t ht
    simp only [lineM, Bool.or_eq_true] at this
    rcases this with h0 | h0
    · have : cls t.1 = 0 := by simpa using h0
      omega
    · obtain ⟨u, hu, he⟩ := List.any_eq_true.1 h0
      exact hn u hu (by simpa using he)
  · exfalso
    obtain ⟨s, hs, hr⟩ := mem_runs.1 (mem_marks.2 h)
    exact absurd hr (by
      have h5 : tab.all (fun s => decide (s.2.1 < 44032) || decide (55204 ≤ s.1)) = true := by kernel_rfl
      have h6 := List.all_eq_true.1 h5 s hs
      rw [inB_true]
      simp at h6
      omega)
  · exact e
end Go.Proofs.YtipigfgnpfhdbaaGreatDoor.F
namespace Go.Proofs.YtipigfgnpfhdbaaGreatDoor.U
open Go.RowKit
set_option linter.unusedVariables false
theorem Own.rdn {w : World} {base : Nat} {e : TypeId} {k : IntKind} {v : Value} {l : List Int} {n : Nat} (h : Own w base e k v l) (hn : l.length = n) :
    ∃ A cap, v = .slice A n cap ∧ n ≤ cap ∧ Rd w w.heap.size k A l ∧ (A = none → cap = 0) := by
  subst hn; exact h.rd
theorem Own.lit (w : World) (e : TypeId) (k : IntKind) {cs : Array Value} {l : List Int} {n : Nat} (h : cs.toList = l.map (Value.int k)) (hn : l.length = n) (hm : n ≤ 1000) :
    Own (w.alloc (.cells cs e)) w.heap.size e k (.slice (some ⟨w.heap.size, 0, none⟩) n n) l := by
  subst hn
  have hs : cs.size = l.length := by rw [← Array.length_toList, h, List.length_map]
  refine ⟨by simp, .inr ⟨w.heap.size, l.length, cs, rfl, Nat.le_refl _, heap_alloc_new w _, Nat.le_refl _, ?_, by omega, ?_⟩⟩
  · simp only [maxLen]; omega
  · rw [Nat.mul_one, h, List.take_of_length_le (by simp)]

end Go.Proofs.YtipigfgnpfhdbaaGreatDoor.U
namespace Go.Proofs.YtipigfgnpfhdbaaGreatDoor.F
open Go.RowKit U
set_option linter.unusedVariables false
section
variable {P : Program} {w : World}
theorem run_append {t ty e : TypeId} {base : Nat} {i : TypeInfo} {z : Value} {bytes : Nat} (ht : P.underlying t = some (.slice e)) (hi : P.info? e = some i) (hz : i.zero = some z)
    (hsize : i.size = 1) (hby : i.bytes = bytes) (hzs : z.cells.size = 1) (hb8 : bytes ≤ 8)
    {k : IntKind} {v : Value} {xs : List Int} (hown : U.Own w base e k v xs)
    {B : Nat} {A : Option Addr} {m c : Nat} {ys : List Int} (hr : Rd w B k A ys) (hm : ys.length = m) (hnil : A = none → c = 0)
    (hn : xs.length + m ≤ 1099511627776) (hbase : base ≤ w.heap.size) :
    ∃ v' w', (Builtin.append_ #[t, t] ty #[v, .slice A m c]).run P w = .ok v' w' ∧ U.Own w' base e k v' (xs ++ ys) ∧ Below base w w' := by
  have h63 : xs.length + m ≤ maxLen := by simp only [maxLen]; omega
  have hbytes : (xs.length + m) * bytes ≤ 140737488355328 := Nat.le_trans (Nat.mul_le_mul hn hb8) (by decide)
  have fin : ∀ v' w', w'.ownsRow base e 1 v' (xs.length + m) (xs.map (Value.int k) ++ ys.map (Value.int k)) → w.grownBy w' v.ownBlock → U.Own w' base e k v' (xs ++ ys) ∧ Below base w w' := by
    intro v' w' h2 h3
    refine ⟨by unfold U.Own; simpa [hm] using h2, (Below.refl _ _).grown h3 hbase fun g hg => (World.ownsRow.lt hown g hg).1⟩
  rcases A with _ | ad
  · obtain rfl : c = 0 := hnil rfl
    have hy : ys = [] := by
      rcases ys with _ | ⟨y, ys⟩
      · rfl
      · obtain ⟨_, _, e, _⟩ := hr 0 y rfl
        cases e
    subst hy
    obtain rfl : m = 0 := by simpa using hm.symm
    exact ⟨v, w, run_append_owned_none w base t ty e i 1 ht hi v _ _ hown, by simpa using hown, Below.refl _ _⟩
  · have hnews : ∀ j u, (ys.map (Value.int k))[j]? = some u → w.cell? (ad.add j) = some u := by
      intro j u hu
      rw [List.getElem?_map] at hu
      obtain ⟨y, hy, rfl⟩ := Option.map_eq_some_iff.1 hu
      obtain ⟨g, off, e, _, hc⟩ := hr j y hy
      cases e
      rw [addr_add]; exact hc
    obtain ⟨v', w', h1, h2, h3, _⟩ := run_append_own_at (P := P) w base t ty e i z 1 bytes ht hi hz hsize hby hzs (by omega) v _ _ hown ad m c (ys.map (Value.int k)) (by simp [hm]) hnews (one_cells k ys) h63 hbytes hbase
    exact ⟨v', w', h1, fin v' w' h2 h3⟩


theorem wp_append {o : Oper} {a : Act} {K : Act → World → Prop} {Q : Exit → Act → World → Prop} (s x : Operand) (t : TypeId)
    (ho : o.op = .call { callee := .builtin .append, args := #[s, x], argTypes := #[t, t] })
    {e : TypeId} {base : Nat} {i : TypeInfo} {z : Value} {bytes : Nat} (ht : P.underlying t = some (.slice e)) (hi : P.info? e = some i) (hz : i.zero = some z)
    (hsize : i.size = 1) (hby : i.bytes = bytes) (hzs : z.cells.size = 1) (hb8 : bytes ≤ 8)
    {k : IntKind} {v : Value} {xs : List Int} (hown : U.Own w base e k v xs) (hs : a.eval s = v)
    {B : Nat} {A : Option Addr} {m c : Nat} {ys : List Int} (hr : Rd w B k A ys) (hx : a.eval x = .slice A m c) (hm : ys.length = m) (hnil : A = none → c = 0)
    (hn : xs.length + m ≤ 1099511627776) (hbase : base ≤ w.heap.size)
    (h : ∀ v' w', U.Own w' base e k v' (xs ++ ys) → Below base w w' → K (a.put o.dst v') w') : o.wp P a w K Q := by
  obtain ⟨v', w', hrun, h2, h3⟩ := run_append (P := P) (ty := o.type) ht hi hz hsize hby hzs hb8 hown hr hm hnil hn hbase
  unfold Oper.wp execOp
  simp only [ho, resolve, invoke, builtin, Sem.run_bind, Sem.run_pure, Result.andThen_ok, List.map_toArray, List.map_cons, List.map_nil, hs, hx, hrun]
  exact h v' w' h2 h3


theorem wpl_append {ops : Array Oper} {rest : List Oper} {o : Oper} {a : Act} {Q : Exit → Act → World → Prop} (hw : Region.wanted o (yielded ops a.tmps) = true) (s x : Operand) (t : TypeId)
    (ho : o.op = .call { callee := .builtin .append, args := #[s, x], argTypes := #[t, t] })
    {e : TypeId} {base : Nat} {i : TypeInfo} {z : Value} {bytes : Nat} (ht : P.underlying t = some (.slice e)) (hi : P.info? e = some i) (hz : i.zero = some z)
    (hsize : i.size = 1) (hby : i.bytes = bytes) (hzs : z.cells.size = 1) (hb8 : bytes ≤ 8)
    {k : IntKind} {v : Value} {xs : List Int} (hown : U.Own w base e k v xs) (hs : a.eval s = v)
    {B : Nat} {A : Option Addr} {m c : Nat} {ys : List Int} (hr : Rd w B k A ys) (hx : a.eval x = .slice A m c) (hm : ys.length = m) (hnil : A = none → c = 0)
    (hn : xs.length + m ≤ 1099511627776) (hbase : base ≤ w.heap.size)
    (h : ∀ v' w', U.Own w' base e k v' (xs ++ ys) → Below base w w' → wpList P ops Q rest (a.put o.dst v') w') : wpList P ops Q (o :: rest) a w :=
  BigFrame.wpList_want hw fun _ hK => wp_append s x t ho ht hi hz hsize hby hzs hb8 hown hs hr hx hm hnil hn hbase fun v' w' h2 h3 => hK _ _ (h v' w' h2 h3)


end
theorem rd_lit {w : World} {cs : Array Value} {l : List Int} {k : IntKind} {t : TypeId} (h : cs.toList = l.map (Value.int k)) : Rd (w.alloc (.cells cs t)) (w.heap.size + 1) k (some ⟨w.heap.size, 0, none⟩) l := fun i x hx => by
  refine ⟨w.heap.size, 0, rfl, by omega, ?_⟩
  have e : cs = (l.map (Value.int k)).toArray := by rw [← h]
  have h1 := World.cell?_alloc_mark w cs t (0, 0) i
  rw [Nat.zero_add]
  refine h1.trans ?_
  rw [e]
  simp [hx]
theorem rd_lit_at {w : World} {cs : Array Value} {l : List Int} {k : IntKind} {t : TypeId} {n : Nat} (hn : w.heap.size = n) (h : cs.toList = l.map (Value.int k)) : Rd (w.alloc (.cells cs t)) (n + 1) k (some ⟨n, 0, none⟩) l := by
  subst hn; exact rd_lit h
def Gives (w : World) (l : List Int) (n : Nat) (e : Ending) (w' : World) : Prop :=
  ∃ A cap, e = .returned (.slice A n cap) ∧ n ≤ cap ∧ Rd w' w'.heap.size .i32 A l ∧ (A = none → cap = 0) ∧ Bel w w'
theorem gives_of {w w' : World} {l : List Int} {n : Nat} {v : Value} (hn : l.length = n) (h : U.Own w' w.heap.size 21 .i32 v l) (hb : Bel w w') : Gives w l n (.returned v) w' := by
  obtain ⟨A, cap, rfl, h1, h2, h3⟩ := h.rdn hn
  exact ⟨A, cap, rfl, h1, h2, h3, hb⟩
theorem cell_bel {w w' : World} {p : Addr} {v : Value} (h : w.cell? p = some v) (hb : Bel w w') : w'.cell? p = some v := (Below.cell hb (cell_block h)).trans h
theorem cell_box (w : World) (v : Value) (t : TypeId) : (w.alloc (.cells #[v] t)).cell? ⟨w.heap.size, 0, none⟩ = some v := by
  rw [World.cell?_alloc_at _ _ _ _ (by simp)]; rfl

def Gr (w w' : World) : Prop := ∃ q os, w' = Sort.grow (w.drewN q) os
theorem Gr.refl (w : World) : Gr w w := ⟨0, #[], by simp [World.drewN]⟩
theorem Gr.trans {a b c : World} (h : Gr a b) (k : Gr b c) : Gr a c := by
  obtain ⟨q, os, rfl⟩ := h
  obtain ⟨q', os', rfl⟩ := k
  refine ⟨q + q', os ++ os', ?_⟩
  show Sort.grow (Sort.grow ((a.drewN q).drewN q') os) os' = _
  rw [Sort.grow_grow, World.drewN_drewN]
theorem Gr.alloc {a w : World} (h : Gr a w) (o : Obj) : Gr a (w.alloc o) := h.trans ⟨0, #[o], by rw [Sort.alloc_eq_grow]; rfl⟩
theorem Gr.drewN {a w : World} (h : Gr a w) (n : Nat) : Gr a (w.drewN n) := h.trans ⟨n, #[], by simp⟩
theorem Gr.drew {a w : World} (h : Gr a w) : Gr a w.drew := h.drewN 1
theorem Gr.bel {w w' : World} (h : Gr w w') : Bel w w' := by
  obtain ⟨q, os, rfl⟩ := h
  exact ⟨rfl, rfl, rfl, by simp [World.drewN], fun k hk => by rw [Sort.heap_grow_old _ _ (by exact hk)]; rfl⟩
def IntIs (w : World) (v : Int) (e : Ending) (w' : World) : Prop := e = .returned (.int .i64 v) ∧ Bel w w'
def RuneIs (w : World) (v : Int) (e : Ending) (w' : World) : Prop := e = .returned (.int .i32 v) ∧ Bel w w'
def BoolIs (w : World) (b : Bool) (e : Ending) (w' : World) : Prop := e = .returned (.bool b) ∧ Bel w w'
end Go.Proofs.YtipigfgnpfhdbaaGreatDoor.F
namespace Go.Proofs.YtipigfgnpfhdbaaGreatDoor.F
open Go.RowKit U
set_option linter.unusedVariables false

/-- A row's cells; the table's. -/
def row4 (s : Row) : List Value := [.int .i32 s.1, .int .i32 s.2.1, .int .u8 s.2.2.1, .int .u8 s.2.2.2]
def tabC : List Value := tab.flatMap row4
theorem flat4 (f : Row → List Value) (hf : ∀ x, (f x).length = 4) : ∀ (l : List Row) (i : Nat) (x : Row), l[i]? = some x → ∀ j, j < 4 → (l.flatMap f)[i * 4 + j]? = (f x)[j]?
  | [], i, x, h, _, _ => by simp at h
  | y :: t, 0, x, h, j, hj => by
    simp at h
    subst h
    rw [List.flatMap_cons, List.getElem?_append_left (by rw [hf]; omega)]
    simp
  | y :: t, i + 1, x, h, j, hj => by
    simp at h
    rw [List.flatMap_cons, List.getElem?_append_right (by rw [hf]; omega), hf]
    rw [show (i + 1) * 4 + j - 4 = i * 4 + j by omega]
    exact flat4 f hf t i x h j hj
/-- The table lies in its variable. -/
def Sp (w : World) : Prop := w.rangeAt 2 0 tabC
theorem Sp.bel {w w' : World} (h : Sp w) (hb : Gr w w') : Sp w' := fun j v hv => by
  have := h j v hv
  exact (Below.cell hb.bel (p := ⟨2, 0 + j, none⟩) (cell_block this)).trans this
theorem Sp.below {w w' : World} {B : Nat} (h : Sp w) (hb : Below B w w') (h0 : 2 < B) : Sp w' := fun j v hv => by
  have := h j v hv
  exact (Below.cell hb (p := ⟨2, 0 + j, none⟩) h0).trans this
theorem Sp.size {w : World} (h : Sp w) : 2 < w.heap.size := by
  have := h 0 (.int .i32 768) rfl
  exact cell_block this
theorem Sp.by {w w' : World} (h : Sp w) (hb : Bel w w') : Sp w' := h.below hb h.size
theorem Sp.at {w : World} (h : Sp w) {i : Nat} {s : Row} (hi : tab[i]? = some s) :
    w.cell? ⟨2, i * 4, none⟩ = some (.int .i32 s.1) ∧ w.cell? ⟨2, i * 4 + 1, none⟩ = some (.int .i32 s.2.1) ∧ w.cell? ⟨2, i * 4 + 2, none⟩ = some (.int .u8 s.2.2.1) ∧ w.cell? ⟨2, i * 4 + 3, none⟩ = some (.int .u8 s.2.2.2) := by
  have k : ∀ j v, j < 4 → (row4 s)[j]? = some v → w.cell? ⟨2, i * 4 + j, none⟩ = some v := fun j v hj hv => by
    have := h (i * 4 + j) v ((flat4 row4 (fun _ => rfl) tab i s hi j hj).trans hv)
    rwa [Nat.zero_add] at this
  exact ⟨k 0 _ (by omega) rfl, k 1 _ (by omega) rfl, k 2 _ (by omega) rfl, k 3 _ (by omega) rfl⟩

set_option maxHeartbeats 2000000 in
theorem test_is (r : Int) (i b : Nat) (s : Row) (t : Bool) (w : World) (h : Sp w) (hi : tab[i]? = some s) (h40 : i < 40) (hb : w.cell? ⟨b, 0, none⟩ = some (.int .i32 r)) (ht : upTo r i = t) :
    Calls Tryz.prog 106 #[.int .i64 i, .pointer (some ⟨b, 0, none⟩)] w fun e w' => e = .returned (.bool t) ∧ Gr w w' := by
  obtain ⟨c0, c1, c2, c3⟩ := h.at hi
  have ht' := (upTo_is (r := r) hi).symm.trans ht
  clear h hi ht c0 c2 c3
  obtain ⟨s0, s1, s2, s3⟩ := s
  dsimp only at c1 ht'
  have q0 : (0 : Int) ≤ (i : Int) := by omega
  have q1 : (i : Int) < 40 := by omega
  go_enter Tryz.func106, Tryz.ntmps106
  go_wp2
  go_quiet (fail)
  go_wp2
  go_ret
  exact ⟨rfl, (Gr.refl _).drewN _⟩

end Go.Proofs.YtipigfgnpfhdbaaGreatDoor.F
namespace Go.Proofs.YtipigfgnpfhdbaaGreatDoor.F
open Go.RowKit U
set_option linter.unusedVariables false

def SearchPost (w : World) (n : Nat) (p : Nat → Bool) (e : Ending) (w' : World) : Prop :=
  ∃ i : Nat, e = .returned (.int .i64 i) ∧ i ≤ n ∧ Hid ((∀ t, t < i → p t = false) ∧ ∀ t, i ≤ t → t < n → p t = true) ∧ Gr w w'
def SearchRel (w : World) (n : Nat) (p : Nat → Bool) (lo hi : Value) (w' : World) : Prop :=
  ∃ a b : Nat, lo = .int .i64 a ∧ hi = .int .i64 b ∧ a ≤ b ∧ b ≤ n ∧ Hid ((∀ t, t < a → p t = false) ∧ ∀ t, b ≤ t → t < n → p t = true) ∧ Gr w w'

set_option maxHeartbeats 2000000 in
theorem search_any (g : Nat) (cb : Array Value) (n : Nat) (p : Nat → Bool) (w : World) (eg : ∀ args w, (callFunc g args).run Tryz.prog w = .ok (.enter g args) w) (hn : n < 1000000)
    (hf : ∀ (w' : World) (i : Nat), i < n → Gr w w' → Calls Tryz.prog g (#[.int .i64 i] ++ cb) w' fun e w'' => e = .returned (.bool (p i)) ∧ Gr w' w'')
    (hmono : ∀ a b, a ≤ b → b < n → p a = true → p b = true) :
    Calls Tryz.prog 105 #[.int .i64 n, .func (.func g) #[] cb] w (SearchPost w n p) := by
  have HF := Lib.hid hf
  have HM := Lib.hid hmono
  clear hf hmono
  go_enter Tryz.func105, Tryz.ntmps105
  go_wp2
  go_loopw [5, 6] (fun lo hi wr => SearchRel w n p lo hi wr) (fun lo hi _ => (intOf hi).toNat - (intOf lo).toNat)
  case atStart => exact ⟨0, n, rfl, rfl, Nat.zero_le _, Nat.le_refl _, Lib.hid ⟨fun t ht => by omega, fun t h1 h2 => by omega⟩, Gr.refl _⟩
  case round =>
    obtain ⟨a, b, rfl, rfl, hab, hbn, HI, hbw⟩ := hrel
    by_cases hlt : a < b
    · obtain ⟨m, hm⟩ : ∃ m, m = (a + b) / 2 := ⟨_, rfl⟩
      have hc := HF.out wr m (by omega) hbw
      have em : ((a : Int) + (b : Int)) / 2 = (m : Int) := by omega
      cases hp : p m <;> rw [hp] at hc
      · have HP := Lib.hid hp
        have h1 : a ≤ m := by omega
        have h2 : m < b := by omega
        clear hp hm
        go_wp2_with (go_at_fn g; refine hc.mono ?_; rintro e w' ⟨rfl, hb1⟩)
        go_roundw
        case rel =>
          refine ⟨m + 1, b, by go_num, rfl, by omega, hbn, Lib.hid ⟨fun t ht => ?_, HI.out.2⟩, hbw.trans hb1⟩
          cases h : p t with
          | false => rfl
          | true => have := HM.out t m (by omega) (by omega) h; rw [HP.out] at this; cases this
        case measure => simp [intOf]; omega
      · have HP := Lib.hid hp
        have h1 : a ≤ m := by omega
        have h2 : m < b := by omega
        clear hp hm
        go_wp2_with (go_at_fn g; refine hc.mono ?_; rintro e w' ⟨rfl, hb1⟩)
        go_roundw
        case rel => exact ⟨a, m, rfl, by go_num, by omega, by omega, Lib.hid ⟨HI.out.1, fun t ht htn => HM.out m t ht htn HP.out⟩, hbw.trans hb1⟩
        case measure => simp [intOf]; omega
    · obtain rfl : b = a := by omega
      go_wp2
      go_ret
      exact ⟨b, rfl, hbn, HI, hbw⟩

end Go.Proofs.YtipigfgnpfhdbaaGreatDoor.F
namespace Go.Proofs.YtipigfgnpfhdbaaGreatDoor.F
open Go.RowKit U
set_option linter.unusedVariables false

set_option maxHeartbeats 2000000 in
theorem classOf_is (s : Row) (r v : Int) (w : World) (hs : 768 ≤ s.1 ∧ s.1 ≤ s.2.1 ∧ s.2.1 ≤ 65059 ∧ 1 ≤ s.2.2.1 ∧ s.2.2.1 ≤ 240 ∧ (s.2.2.2 = 0 ∨ s.2.2.2 = 1)) (hr : s.1 ≤ r ∧ r ≤ s.2.1) (hv : cval s r = v) :
    Calls Tryz.prog 107 #[.agg #[.int .i32 s.1, .int .i32 s.2.1, .int .u8 s.2.2.1, .int .u8 s.2.2.2], .int .i32 r] w fun e w' => e = .returned (.int .i64 v) ∧ Gr w w' := by
  obtain ⟨s0, s1, s2, s3⟩ := s
  dsimp only [cval] at hs hr hv ⊢
  obtain ⟨h0, h1, h2, h3, h4, h5⟩ := hs
  obtain ⟨g0, g1⟩ := hr
  rcases h5 with rfl | rfl
  · rw [Int.mul_zero, Int.add_zero] at hv
    subst hv
    go_enter Tryz.func107, Tryz.ntmps107
    go_wp2
    go_ret
    exact ⟨by first | rfl | exact ret_int (by omega), (Gr.refl _).alloc _⟩
  · rw [Int.mul_one] at hv
    have q0 : 0 ≤ r - s0 := by omega
    have q1 : r - s0 ≤ 65059 := by omega
    go_enter Tryz.func107, Tryz.ntmps107
    go_wp2
    go_ret
    exact ⟨by first | rfl | exact ret_int (by omega), (Gr.refl _).alloc _⟩
end Go.Proofs.YtipigfgnpfhdbaaGreatDoor.F
namespace Go.Proofs.YtipigfgnpfhdbaaGreatDoor.F
open Go.RowKit U
set_option linter.unusedVariables false

def IntG (w : World) (v : Int) (e : Ending) (w' : World) : Prop := e = .returned (.int .i64 v) ∧ Gr w w'
def BoolG (w : World) (b : Bool) (e : Ending) (w' : World) : Prop := e = .returned (.bool b) ∧ Gr w w'

theorem enters_31 : ∀ (args : Array Value) (w : World), (callFunc 106 args).run Tryz.prog w = .ok (.enter 106 args) w := enters_of Tryz.func106 (by kernel_rfl) rfl

theorem search_is (r : Int) (b : Nat) (w : World) (h : Sp w) (hb : w.cell? ⟨b, 0, none⟩ = some (.int .i32 r)) :
    Calls Tryz.prog 105 #[.int .i64 40, .func (.func 106) #[] #[.pointer (some ⟨b, 0, none⟩)]] w (SearchPost w 40 (upTo r)) := by
  refine search_any 106 #[.pointer (some ⟨b, 0, none⟩)] 40 (upTo r) w enters_31 (by omega) (fun w' i hi hbel => ?_) (fun a b hab hb' hp => upTo_mono hab hb' hp)
  obtain ⟨s, hs⟩ := tab_at hi
  exact test_is r i b s _ w' (h.bel hbel) hs hi ((Below.cell hbel.bel (p := ⟨b, 0, none⟩) (cell_block hb)).trans hb) rfl

set_option maxRecDepth 100000 in
set_option maxHeartbeats 2000000 in
theorem of_is (r v : Int) (w : World) (h : Sp w) (hv : cls r = v) : Calls Tryz.prog 66 #[.int .i32 r] w (IntG w v) := by
  have hmf : ∀ (fn : Fn) (first cap : Array Value) (w : World), (Instr.makeFunc fn first cap).run Tryz.prog w = .ok (.func fn first cap) w := fun _ _ _ _ => rfl
  have hbox := cell_box w (.int .i32 r) 21
  have hS := search_is r w.heap.size _ (h.bel ((Gr.refl w).alloc (.cells #[.int .i32 r] 21))) hbox
  have HB := Lib.hid hbox
  have HH := Lib.hid h
  have HV := Lib.hid hv
  clear h hv hbox
  go_enter Tryz.func66, Tryz.ntmps66
  go_wp2_with (go_at_call 105; refine hS.mono ?_; rintro e w1 ⟨i, rfl, hi, HI, hb1⟩)
  have hb2 : Gr w w1 := ((Gr.refl w).alloc _).trans hb1
  have c0 : w1.cell? ⟨w.heap.size, 0, none⟩ = some (.int .i32 r) := (Below.cell hb1.bel (p := ⟨w.heap.size, 0, none⟩) (cell_block HB.out)).trans HB.out
  clear hS
  by_cases h40 : i = 40
  · subst h40
    have e0 := HV.out
    rw [cls_past fun t ht => HI.out.1 t ht] at e0
    subst e0
    go_quiet (fail)
    go_wp2
    go_ret
    exact ⟨rfl, hb2.drewN _⟩
  · have hlt : i < 40 := by omega
    obtain ⟨s, hs⟩ := tab_at hlt
    obtain ⟨d0, d1, d2, d3⟩ := (HH.out.bel hb2).at hs
    have q0 : (0 : Int) ≤ (i : Int) := by omega
    have q1 : (i : Int) < 40 := by omega
    have q2 : ((i : Int) == 40) = false := by simp; omega
    have hrow := tab_row hs
    have hmid := fun (w : World) (hc : w.rangeAt 2 (i * 4) (row4 s)) => run_loadAt_mid (P := Tryz.prog) w 2 (i * 4) 129 (row4 s) _ hc Tryz.underlying129 rfl (by kernel_rfl)
    by_cases hr : r < s.1
    · have e0 := HV.out
      rw [cls_ahead hs HI.out.1 hr] at e0
      subst e0
      have hd : decide (r < s.1) = true := by simpa using hr
      go_quiet (fail)
      go_wp2
      go_ret
      exact ⟨rfl, hb2.drewN _⟩
    · have hu := HI.out.2 i (Nat.le_refl _) hlt
      have e0 := HV.out
      rw [cls_in hs HI.out.1 hu hr] at e0
      rw [upTo_is hs] at hu
      have hle : r ≤ s.2.1 := by simpa using hu
      have hd : decide (r < s.1) = false := by simpa using hr
      have hC := fun w => classOf_is s r v w hrow ⟨by omega, hle⟩ e0
      clear hu hle e0
      go_quiet (fail)
      go_wp2
      have hb4 : Gr w (w1.drewN nq) := hb2.drewN nq
      have e0 : (w1.drewN nq).cell? ⟨w.heap.size, 0, none⟩ = some (.int .i32 r) := c0
      have e1 : (w1.drewN nq).cell? ⟨2, i * 4, none⟩ = some (.int .i32 s.1) := d0
      have e2 : (w1.drewN nq).cell? ⟨2, i * 4 + 1, none⟩ = some (.int .i32 s.2.1) := d1
      have e3 : (w1.drewN nq).cell? ⟨2, i * 4 + 2, none⟩ = some (.int .u8 s.2.2.1) := d2
      have e4 : (w1.drewN nq).cell? ⟨2, i * 4 + 3, none⟩ = some (.int .u8 s.2.2.2) := d3
      generalize w1.drewN nq = w2 at hb4 e0 e1 e2 e3 e4 ⊢
      clear c0 d0 d1 d2 d3 hb1 hb2 HB HI hmid HH
      go_region_with (go_at_call 107; refine (hC _).mono ?_; rintro e w3 ⟨rfl, hb3⟩)
      all_goals go_wp2
      all_goals go_ret
      all_goals exact ⟨rfl, hb4.drew.trans hb3⟩

theorem mark_is (r : Int) (b : Bool) (w : World) (h : Sp w) (hb : decide (0 < cls r) = b) : Calls Tryz.prog 44 #[.int .i32 r] w (BoolG w b) := by
  have H := Lib.hid (of_is r (cls r) w h rfl)
  subst hb
  generalize cls r = v at H ⊢
  clear h
  go_enter Tryz.func44, Tryz.ntmps44
  go_wp2_with (go_at_call 66; (with_reducible refine H.out.mono ?_); rintro e w1 ⟨rfl, hb⟩)
  go_ret
  exact ⟨by first | rfl | (refine ret_bool ?_; simp), hb⟩
end Go.Proofs.YtipigfgnpfhdbaaGreatDoor.F
