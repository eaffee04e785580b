/- The chapters' lists of Extended Latin, Greek, Hebrew, Arabic and Cyrillic, a row a number: the number, and its character; what it is to look a number up; digits of base 16. Plain mathematics. -/
import Derived.KernelRfl
namespace Go.Proofs.YtdjaacmaljcnhaaDoor.U
set_option linter.unusedVariables false
set_option maxRecDepth 100000

def tabA : List (Int × Int) := [(33, 321), (34, 216), (35, 272), (36, 222), (37, 198), (38, 338), (39, 697), (40, 183), (41, 9837), (42, 174), (43, 177), (44, 416), (45, 431), (46, 700), (48, 699), (49, 322), (50, 248), (51, 273), (52, 254), (53, 230), (54, 339), (55, 698), (56, 305), (57, 163), (58, 240), (60, 417), (61, 432), (64, 176), (65, 8467), (66, 8471), (67, 169), (68, 9839), (69, 191), (70, 161), (71, 223), (72, 8364), (96, 777), (97, 768), (98, 769), (99, 770), (100, 771), (101, 772), (102, 774), (103, 775), (104, 776), (105, 780), (106, 778), (107, 65056), (108, 65057), (109, 789), (110, 779), (111, 784), (112, 807), (113, 808), (114, 803), (115, 804), (116, 805), (117, 819), (118, 818), (119, 806), (120, 796), (121, 814), (122, 65058), (123, 65059), (126, 787)]
def tab3 : List (Int × Int) := [(33, 768), (34, 769), (35, 776), (36, 834), (37, 787), (38, 788), (39, 837), (48, 171), (49, 187), (50, 8220), (51, 8221), (52, 884), (53, 885), (59, 903), (63, 894), (65, 913), (66, 914), (68, 915), (69, 916), (70, 917), (71, 986), (72, 988), (73, 918), (74, 919), (75, 920), (76, 921), (77, 922), (78, 923), (79, 924), (80, 925), (81, 926), (82, 927), (83, 928), (84, 990), (85, 929), (86, 931), (88, 932), (89, 933), (90, 934), (91, 935), (92, 936), (93, 937), (94, 992), (97, 945), (98, 946), (99, 976), (100, 947), (101, 948), (102, 949), (103, 987), (104, 989), (105, 950), (106, 951), (107, 952), (108, 953), (109, 954), (110, 955), (111, 956), (112, 957), (113, 958), (114, 959), (115, 960), (116, 991), (117, 961), (118, 963), (119, 962), (120, 964), (121, 965), (122, 966), (123, 967), (124, 968), (125, 969), (126, 993)]
def tab4 : List (Int × Int) := [(33, 33), (34, 1524), (35, 35), (36, 36), (37, 37), (38, 38), (39, 1523), (40, 40), (41, 41), (42, 42), (43, 43), (44, 44), (45, 1470), (46, 46), (47, 47), (48, 48), (49, 49), (50, 50), (51, 51), (52, 52), (53, 53), (54, 54), (55, 55), (56, 56), (57, 57), (58, 58), (59, 59), (60, 60), (61, 61), (62, 62), (63, 63), (64, 1463), (65, 1464), (66, 1462), (67, 1461), (68, 1460), (69, 1465), (70, 1467), (71, 1456), (72, 1458), (73, 1459), (74, 1457), (75, 1468), (76, 1471), (77, 1473), (78, 64286), (96, 1488), (97, 1489), (98, 1490), (99, 1491), (100, 1492), (101, 1493), (102, 1494), (103, 1495), (104, 1496), (105, 1497), (106, 1498), (107, 1499), (108, 1500), (109, 1501), (110, 1502), (111, 1503), (112, 1504), (113, 1505), (114, 1506), (115, 1507), (116, 1508), (117, 1509), (118, 1510), (119, 1511), (120, 1512), (121, 1513), (122, 1514), (123, 1520), (124, 1521), (125, 1522)]
def tab5 : List (Int × Int) := [(33, 33), (34, 34), (35, 35), (36, 36), (37, 1642), (38, 38), (39, 39), (40, 40), (41, 41), (42, 1645), (43, 43), (44, 1548), (45, 45), (46, 46), (47, 47), (48, 1632), (49, 1633), (50, 1634), (51, 1635), (52, 1636), (53, 1637), (54, 1638), (55, 1639), (56, 1640), (57, 1641), (58, 58), (59, 1563), (60, 60), (61, 61), (62, 62), (63, 1567), (65, 1569), (66, 1570), (67, 1571), (68, 1572), (69, 1573), (70, 1574), (71, 1575), (72, 1576), (73, 1577), (74, 1578), (75, 1579), (76, 1580), (77, 1581), (78, 1582), (79, 1583), (80, 1584), (81, 1585), (82, 1586), (83, 1587), (84, 1588), (85, 1589), (86, 1590), (87, 1591), (88, 1592), (89, 1593), (90, 1594), (91, 91), (93, 93), (96, 1600), (97, 1601), (98, 1602), (99, 1603), (100, 1604), (101, 1605), (102, 1606), (103, 1607), (104, 1608), (105, 1609), (106, 1610), (107, 1611), (108, 1612), (109, 1613), (110, 1614), (111, 1615), (112, 1616), (113, 1617), (114, 1618), (115, 1649), (116, 1648), (120, 1644), (121, 8221), (122, 8220)]
def tab6 : List (Int × Int) := [(33, 1789), (34, 1650), (35, 1651), (36, 1657), (37, 1658), (38, 1659), (39, 1660), (40, 1661), (41, 1662), (42, 1663), (43, 1664), (44, 1665), (45, 1666), (46, 1667), (47, 1668), (48, 1669), (49, 1670), (50, 1727), (51, 1671), (52, 1672), (53, 1673), (54, 1674), (55, 1675), (56, 1676), (57, 1677), (58, 1678), (59, 1679), (60, 1680), (61, 1681), (62, 1682), (63, 1683), (64, 1684), (65, 1685), (66, 1686), (67, 1687), (68, 1688), (69, 1689), (70, 1690), (71, 1691), (72, 1692), (73, 1786), (74, 1693), (75, 1694), (76, 1787), (77, 1695), (78, 1696), (79, 1788), (80, 1697), (81, 1698), (82, 1699), (83, 1700), (84, 1701), (85, 1702), (86, 1703), (87, 1704), (88, 1705), (89, 1706), (90, 1707), (91, 1708), (92, 1709), (93, 1710), (94, 1711), (95, 1712), (96, 1713), (97, 1714), (98, 1715), (99, 1716), (100, 1717), (101, 1718), (102, 1719), (103, 1720), (104, 1722), (105, 1723), (106, 1724), (107, 1725), (108, 1721), (109, 1726)]
def tab7 : List (Int × Int) := [(33, 33), (34, 34), (35, 35), (36, 36), (37, 37), (38, 38), (39, 39), (40, 40), (41, 41), (42, 42), (43, 43), (44, 44), (45, 45), (46, 46), (47, 47), (48, 48), (49, 49), (50, 50), (51, 51), (52, 52), (53, 53), (54, 54), (55, 55), (56, 56), (57, 57), (58, 58), (59, 59), (60, 60), (61, 61), (62, 62), (63, 63), (64, 1102), (65, 1072), (66, 1073), (67, 1094), (68, 1076), (69, 1077), (70, 1092), (71, 1075), (72, 1093), (73, 1080), (74, 1081), (75, 1082), (76, 1083), (77, 1084), (78, 1085), (79, 1086), (80, 1087), (81, 1103), (82, 1088), (83, 1089), (84, 1090), (85, 1091), (86, 1078), (87, 1074), (88, 1100), (89, 1099), (90, 1079), (91, 1096), (92, 1101), (93, 1097), (94, 1095), (95, 1098), (96, 1070), (97, 1040), (98, 1041), (99, 1062), (100, 1044), (101, 1045), (102, 1060), (103, 1043), (104, 1061), (105, 1048), (106, 1049), (107, 1050), (108, 1051), (109, 1052), (110, 1053), (111, 1054), (112, 1055), (113, 1071), (114, 1056), (115, 1057), (116, 1058), (117, 1059), (118, 1046), (119, 1042), (120, 1068), (121, 1067), (122, 1047), (123, 1064), (124, 1069), (125, 1065), (126, 1063)]
def tab8 : List (Int × Int) := [(64, 1169), (65, 1106), (66, 1107), (67, 1108), (68, 1105), (69, 1109), (70, 1110), (71, 1111), (72, 1112), (73, 1113), (74, 1114), (75, 1115), (76, 1116), (77, 1118), (78, 1119), (80, 1123), (81, 1139), (82, 1141), (83, 1131), (91, 91), (93, 93), (95, 95), (96, 1168), (97, 1026), (98, 1027), (99, 1028), (100, 1025), (101, 1029), (102, 1030), (103, 1031), (104, 1032), (105, 1033), (106, 1034), (107, 1035), (108, 1036), (109, 1038), (110, 1039), (111, 1066), (112, 1122), (113, 1138), (114, 1140), (115, 1130)]
/-- The character of a number, and whether it has one. -/
def look (t : List (Int × Int)) (n : Int) : Int × Bool := match t.find? (fun p => p.1 == n) with
  | some p => (p.2, true)
  | none => (0, false)
theorem look_yes {t : List (Int × Int)} {n r : Int} (h : look t n = (r, true)) : (n, r) ∈ t := by
  unfold look at h
  split at h
  · rename_i p hp
    have h1 := List.find?_some hp
    have h2 := List.mem_of_find?_eq_some hp
    obtain ⟨a, b⟩ := p
    simp at h h1
    subst h h1
    exact h2
  · simp at h
theorem look_no {t : List (Int × Int)} {n r : Int} (h : look t n = (r, false)) : r = 0 := by
  unfold look at h
  split at h
  · simp at h
  · simp at h; exact h.symm
theorem look_hit {t pre rest : List (Int × Int)} {n r : Int} (hA : t = pre ++ (n, r) :: rest) (hp : ∀ p ∈ pre, p.1 ≠ n) : look t n = (r, true) := by
  have : t.find? (fun p => p.1 == n) = some (n, r) := by
    rw [hA, List.find?_append, List.find?_eq_none.2 (fun p h => by simpa using hp p h)]
    simp
  unfold look
  rw [this]
theorem look_miss {t : List (Int × Int)} {n : Int} (hp : ∀ p ∈ t, p.1 ≠ n) : look t n = (0, false) := by
  unfold look
  rw [List.find?_eq_none.2 (fun p h => by simpa using hp p h)]
/-- A list whose characters fit, and are apart. -/
def fine (t : List (Int × Int)) : Bool := t.all (fun p => decide (0 ≤ p.2) && decide (p.2 ≤ 65535)) && t.all (fun p => t.all fun q => (p.2 == q.2) == (p.1 == q.1))
theorem look_fit {t : List (Int × Int)} (ht : fine t = true) {n r : Int} {b : Bool} (h : look t n = (r, b)) : 0 ≤ r ∧ r ≤ 65535 := by
  cases b with
  | true =>
    simp only [fine, Bool.and_eq_true] at ht
    have := List.all_eq_true.1 ht.1 _ (look_yes h)
    simpa using this
  | false => have := look_no h; omega
theorem look_apart {t : List (Int × Int)} (ht : fine t = true) {a b x y : Int} (ha : look t a = (x, true)) (hb : look t b = (y, true)) : (x == y) = (a == b) := by
  simp only [fine, Bool.and_eq_true] at ht
  have h1 := List.all_eq_true.1 ht.2 _ (look_yes ha)
  have h2 := List.all_eq_true.1 h1 _ (look_yes hb)
  exact eq_of_beq h2
theorem fineA : fine tabA = true := by kernel_rfl
theorem fine3 : fine tab3 = true := by kernel_rfl
theorem fine4 : fine tab4 = true := by kernel_rfl
theorem fine5 : fine tab5 = true := by kernel_rfl
theorem fine6 : fine tab6 = true := by kernel_rfl
theorem fine7 : fine tab7 = true := by kernel_rfl
theorem fine8 : fine tab8 = true := by kernel_rfl
theorem tabA_in : tabA.all (fun p => decide (128 ≤ p.2)) = true := by kernel_rfl
theorem tabA_row {p : Int × Int} (h : p ∈ tabA) : 128 ≤ p.2 := by
  have := List.all_eq_true.1 tabA_in p h
  simpa using this
theorem look_97 : look tabA 97 = (768, true) := by kernel_rfl
theorem look_c65 : look tab7 65 = (1072, true) := by kernel_rfl
theorem look_c95 : look tab7 95 = (1098, true) := by kernel_rfl
theorem look_c127 : look tab7 127 = (0, false) := by kernel_rfl
/-- The list of a set. -/
def tabS (s : Nat) : List (Int × Int) := match s with
  | 0 => tab3
  | 1 => tab4
  | 2 => tab5
  | 3 => tab6
  | 4 => tab7
  | _ => tab8
theorem fineS (s : Nat) : fine (tabS s) = true := by
  unfold tabS
  split
  · exact fine3
  · exact fine4
  · exact fine5
  · exact fine6
  · exact fine7
  · exact fine8
theorem cases_all : (List.range 31).all (fun i => (look tab7 (64 + (i : Int))).2 && (look tab7 (96 + (i : Int))).2 && ((look tab7 (64 + (i : Int))).1 == (look tab7 (96 + (i : Int))).1 + 32)) = true := by kernel_rfl
theorem cases_at {k : Int} (h0 : 64 ≤ k) (h1 : k ≤ 94) : ∃ b, look tab7 k = (b + 32, true) ∧ look tab7 (k + 32) = (b, true) := by
  have h := List.all_eq_true.1 cases_all (k - 64).toNat (by simp; omega)
  have e : (64 : Int) + ((k - 64).toNat : Int) = k := by omega
  have e2 : (96 : Int) + ((k - 64).toNat : Int) = k + 32 := by omega
  rw [e, e2] at h
  simp only [Bool.and_eq_true, beq_iff_eq] at h
  refine ⟨(look tab7 (k + 32)).1, ?_, ?_⟩
  · rw [← h.2, ← h.1.1]
  · rw [← h.1.2]

def isD (c : Int) : Bool := decide (48 ≤ c) && decide (c ≤ 57) || decide (65 ≤ c) && decide (c ≤ 70)
def val (c : Int) : Int := if c < 58 then c - 48 else c - 55
theorem isD_true {c : Int} : isD c = true ↔ (48 ≤ c ∧ c ≤ 57) ∨ (65 ≤ c ∧ c ≤ 70) := by simp [isD]
def num (l : List Int) : Int := l.foldl (fun a c => 16 * a + val c) 0
theorem num_snoc (l : List Int) (c : Int) : num (l ++ [c]) = 16 * num l + val c := by simp [num]
theorem D_range {c : Int} (h : isD c = true) : 0 ≤ val c ∧ val c < 16 := by
  rw [isD_true] at h; unfold val; split <;> omega
theorem num_range {l : List Int} (hD : ∀ c ∈ l, isD c = true) (h6 : l.length ≤ 6) : 0 ≤ num l ∧ num l < 16777216 := by
  have key : ∀ k (l : List Int), l.length = k → (∀ c ∈ l, isD c = true) → 0 ≤ num l ∧ num l < 16 ^ k := by
    intro k
    induction k with
    | zero => intro l hl _; rw [List.eq_nil_of_length_eq_zero hl]; simp [num]
    | succ k ih =>
      intro l hl hD
      rcases List.eq_nil_or_concat l with rfl | ⟨t, c, rfl⟩
      · simp at hl
      · have h1 := ih t (by simpa using hl) (fun x hx => hD x (by simp [hx]))
        have h2 := D_range (hD c (by simp))
        rw [List.concat_eq_append, num_snoc]
        have h3 : (16 : Int) ^ (k + 1) = 16 * 16 ^ k := by rw [Int.pow_succ]; omega
        omega
  have h := key l.length l rfl hD
  have h2 : (16 : Int) ^ l.length ≤ 16777216 := by
    rcases (show l.length = 0 ∨ l.length = 1 ∨ l.length = 2 ∨ l.length = 3 ∨ l.length = 4 ∨ l.length = 5 ∨ l.length = 6 by omega) with e | e | e | e | e | e | e <;> rw [e] <;> decide
  omega

end Go.Proofs.YtdjaacmaljcnhaaDoor.U
