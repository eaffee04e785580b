/- slices.SortFunc at codes: the library structure laid over this program (no walk). The chapters' lists of Extended Latin, Greek, Hebrew, Arabic and Cyrillic, a row a number: the number, and its character; what it is to look a number up; digits of base 16. Plain mathematics. Slices that read as numbers, rows that a call owns, 'append' onto them, conversions between strings, bytes and characters. Of whatever program. A range over a function, at the top of a call or within a round of another one: by what its body does in a round, over an iterator that keeps its state in blocks of its own. No condition. The texts that stand in latin.Ansel and scripts.list, as letters; their lines, what parts makes of each, the words and what each word tells: together the lists of the chapters. The bodies are the translation's own, the texts and the places in the Go text struck out. The library contracts of strings.TrimSpace, Cut, Count, Index, of unicode.IsSpace and of utf8.DecodeRuneInString, laid over this program (library theorems applied; no walk); what they ask of the library tables. What strings.SplitSeq tells of a text at a separator of one byte: its pieces, in order, until it is told to stop. No condition. What strings.FieldsSeq tells of a text: its words, in order, until it is told to stop. Tables as they are laid. -/
import Derived.Shelf.SlSortCmp.WholeK
import Derived.Shelf.SlSortCmp.NoneTotal
import Derived.Test.YtipigfgnpfhdbaaGreatDoorProg
import Derived.KernelRfl
import Derived.WalkKit
import Derived.Below
import Derived.OpenShut
import Derived.Deep.AppendLies
import Derived.Deep.RegionLaw
import Derived.Deep.DrawnRows
import Derived.Deep.RegionHeld3
import Derived.Lib.Hide
import Derived.Lib.SlBytesConst
import Derived.Laws.AppendOwnNone
import Derived.Laws.Cover4
import Derived.Laws.RangeString
import Derived.Maps.AppendAt
import Derived.BigFrame
import Derived.BigQuiet
import Derived.BigRegion
import Derived.ArgAppend
import Derived.Lib.AppendStr
import Derived.RangeFuncNested
import Derived.RangeFuncBound
import Derived.RangeFuncCalls
import Derived.RangeFuncLeaves
import Derived.Shelf.Abstract
import Derived.Shelf.RegionOpen
import Derived.OwnWalkIn
import Derived.TacticsInMore
import Derived.LoopNIn
import Derived.LoopIn
import Derived.Lib.Space
import Derived.Lib.SpaceU
import Derived.Lib.IndexMore
import Derived.Shelf.Unicode.DecodeSlow
import Derived.Shelf.Unicode.IsSpaceAny
import Derived.Shelf.Strings.TrimSpaceAny
import Derived.Shelf.Strings.Cut
import Derived.Shelf.Strings.Count
import Derived.Shelf.Strings.Search3
import Derived.Shelf.Unicode.DecodeAny
namespace Go.Proofs.YtipigfgnpfhdbaaGreatDoor.G
open Go.Shelf Go.RowKit
set_option linter.unusedVariables false
def sortLay_ren : Go.Shelf.Ren := ⟨fun | 6 => 32 | 15 => 51 | 14 => 52 | 28 => 82 | 29 => 83 | 20 => 84 | 21 => 85 | 22 => 86 | 23 => 87 | 24 => 88 | 25 => 89 | 26 => 90 | 27 => 91 | 46 => 117 | 47 => 112 | 48 => 113 | 49 => 118 | 50 => 119 | 57 => 129 | n => n, fun | 22 => 25 | 24 => 30 | 25 => 61 | 3 => 3 | 39 => 79 | 0 => 0 | 53 => 110 | 55 => 112 | 4 => 4 | 46 => 102 | 45 => 101 | 50 => 107 | 5 => 5 | 9 => 9 | 66 => 134 | 70 => 138 | 76 => 153 | 77 => 154 | n => n, fun | n => n⟩
theorem sortLay : Go.Proofs.SlLaysF0.n6 Tryz.prog sortLay_ren := {
  mixed := by kernel_rfl
  f6 := ⟨Tryz.f32.name, by decide, Tryz.func32.trans (congrArg some (by kernel_rfl))⟩
  f14 := ⟨Tryz.f52.name, by decide, Tryz.func52.trans (congrArg some (by kernel_rfl))⟩
  f15 := Tryz.func51.trans (congrArg some (by kernel_rfl))
  f20 := ⟨Tryz.f84.name, by decide, Tryz.func84.trans (congrArg some (by kernel_rfl))⟩
  f21 := ⟨Tryz.f85.name, by decide, Tryz.func85.trans (congrArg some (by kernel_rfl))⟩
  f22 := ⟨Tryz.f86.name, by decide, Tryz.func86.trans (congrArg some (by kernel_rfl))⟩
  f23 := ⟨Tryz.f87.name, by decide, Tryz.func87.trans (congrArg some (by kernel_rfl))⟩
  f24 := ⟨Tryz.f88.name, by decide, Tryz.func88.trans (congrArg some (by kernel_rfl))⟩
  f25 := ⟨Tryz.f89.name, by decide, Tryz.func89.trans (congrArg some (by kernel_rfl))⟩
  f26 := ⟨Tryz.f90.name, by decide, Tryz.func90.trans (congrArg some (by kernel_rfl))⟩
  f27 := ⟨Tryz.f91.name, by decide, Tryz.func91.trans (congrArg some (by kernel_rfl))⟩
  f28 := Tryz.func82.trans (congrArg some (by kernel_rfl))
  f29 := Tryz.func83.trans (congrArg some (by kernel_rfl))
  f46 := ⟨Tryz.f117.name, by decide, Tryz.func117.trans (congrArg some (by kernel_rfl))⟩
  f47 := Tryz.func112.trans (congrArg some (by kernel_rfl))
  f48 := Tryz.func113.trans (congrArg some (by kernel_rfl))
  f49 := ⟨Tryz.f118.name, by decide, Tryz.func118.trans (congrArg some (by kernel_rfl))⟩
  f50 := ⟨Tryz.f119.name, by decide, Tryz.func119.trans (congrArg some (by kernel_rfl))⟩
  f57 := ⟨Tryz.f129.name, by decide, Tryz.func129.trans (congrArg some (by kernel_rfl))⟩
  t0 := Tryz.underlying0
  a0 := Tryz.isAgg0
  z0 := Tryz.sizeOf0
  v0 := Tryz.zeroValue0
  t3 := Tryz.underlying3
  a3 := Tryz.isAgg3
  z3 := Tryz.sizeOf3
  v3 := Tryz.zeroValue3
  t4 := Tryz.underlying4
  a4 := Tryz.isAgg4
  z4 := Tryz.sizeOf4
  v4 := Tryz.zeroValue4
  t5 := Tryz.underlying5
  a5 := Tryz.isAgg5
  z5 := Tryz.sizeOf5
  v5 := Tryz.zeroValue5
  t9 := Tryz.underlying9
  a9 := Tryz.isAgg9
  z9 := Tryz.sizeOf9
  v9 := Tryz.zeroValue9
  t22 := Tryz.underlying25
  a22 := Tryz.isAgg25
  z22 := Tryz.sizeOf25
  v22 := Tryz.zeroValue25
  t25 := Tryz.underlying61
  a25 := Tryz.isAgg61
  z25 := Tryz.sizeOf61
  v25 := Tryz.zeroValue61
  t39 := Tryz.underlying79
  a39 := Tryz.isAgg79
  z39 := Tryz.sizeOf79
  v39 := Tryz.zeroValue79
  t45 := Tryz.underlying101
  a45 := Tryz.isAgg101
  z45 := Tryz.sizeOf101
  v45 := Tryz.zeroValue101
  t46 := Tryz.underlying102
  a46 := Tryz.isAgg102
  z46 := Tryz.sizeOf102
  v46 := Tryz.zeroValue102
  t50 := Tryz.underlying107
  a50 := Tryz.isAgg107
  z50 := Tryz.sizeOf107
  v50 := Tryz.zeroValue107
  t53 := Tryz.underlying110
  a53 := Tryz.isAgg110
  z53 := Tryz.sizeOf110
  v53 := Tryz.zeroValue110
  t55 := Tryz.underlying112
  a55 := Tryz.isAgg112
  z55 := Tryz.sizeOf112
  v55 := Tryz.zeroValue112
  t66 := Tryz.underlying134
  a66 := Tryz.isAgg134
  z66 := Tryz.sizeOf134
  v66 := Tryz.zeroValue134
  t70 := Tryz.underlying138
  a70 := Tryz.isAgg138
  z70 := Tryz.sizeOf138
  v70 := Tryz.zeroValue138
  t76 := Tryz.underlying153
  a76 := Tryz.isAgg153
  z76 := Tryz.sizeOf153
  v76 := Tryz.zeroValue153
  t77 := Tryz.underlying154
  a77 := Tryz.isAgg154
  z77 := Tryz.sizeOf154
  v77 := Tryz.zeroValue154 }
end Go.Proofs.YtipigfgnpfhdbaaGreatDoor.G
namespace Go.Proofs.YtipigfgnpfhdbaaGreatDoor.U
set_option linter.unusedVariables false
set_option maxRecDepth 100000

def tabA : List (Int × Int) := [(33, 321), (34, 216), (35, 272), (36, 222), (37, 198), (38, 338), (39, 697), (40, 183), (41, 9837), (42, 174), (43, 177), (44, 416), (45, 431), (46, 700), (48, 699), (49, 322), (50, 248), (51, 273), (52, 254), (53, 230), (54, 339), (55, 698), (56, 305), (57, 163), (58, 240), (60, 417), (61, 432), (64, 176), (65, 8467), (66, 8471), (67, 169), (68, 9839), (69, 191), (70, 161), (71, 223), (72, 8364), (96, 777), (97, 768), (98, 769), (99, 770), (100, 771), (101, 772), (102, 774), (103, 775), (104, 776), (105, 780), (106, 778), (107, 65056), (108, 65057), (109, 789), (110, 779), (111, 784), (112, 807), (113, 808), (114, 803), (115, 804), (116, 805), (117, 819), (118, 818), (119, 806), (120, 796), (121, 814), (122, 65058), (123, 65059), (126, 787)]
def tab3 : List (Int × Int) := [(33, 768), (34, 769), (35, 776), (36, 834), (37, 787), (38, 788), (39, 837), (48, 171), (49, 187), (50, 8220), (51, 8221), (52, 884), (53, 885), (59, 903), (63, 894), (65, 913), (66, 914), (68, 915), (69, 916), (70, 917), (71, 986), (72, 988), (73, 918), (74, 919), (75, 920), (76, 921), (77, 922), (78, 923), (79, 924), (80, 925), (81, 926), (82, 927), (83, 928), (84, 990), (85, 929), (86, 931), (88, 932), (89, 933), (90, 934), (91, 935), (92, 936), (93, 937), (94, 992), (97, 945), (98, 946), (99, 976), (100, 947), (101, 948), (102, 949), (103, 987), (104, 989), (105, 950), (106, 951), (107, 952), (108, 953), (109, 954), (110, 955), (111, 956), (112, 957), (113, 958), (114, 959), (115, 960), (116, 991), (117, 961), (118, 963), (119, 962), (120, 964), (121, 965), (122, 966), (123, 967), (124, 968), (125, 969), (126, 993)]
def tab4 : List (Int × Int) := [(33, 33), (34, 1524), (35, 35), (36, 36), (37, 37), (38, 38), (39, 1523), (40, 40), (41, 41), (42, 42), (43, 43), (44, 44), (45, 1470), (46, 46), (47, 47), (48, 48), (49, 49), (50, 50), (51, 51), (52, 52), (53, 53), (54, 54), (55, 55), (56, 56), (57, 57), (58, 58), (59, 59), (60, 60), (61, 61), (62, 62), (63, 63), (64, 1463), (65, 1464), (66, 1462), (67, 1461), (68, 1460), (69, 1465), (70, 1467), (71, 1456), (72, 1458), (73, 1459), (74, 1457), (75, 1468), (76, 1471), (77, 1473), (78, 64286), (96, 1488), (97, 1489), (98, 1490), (99, 1491), (100, 1492), (101, 1493), (102, 1494), (103, 1495), (104, 1496), (105, 1497), (106, 1498), (107, 1499), (108, 1500), (109, 1501), (110, 1502), (111, 1503), (112, 1504), (113, 1505), (114, 1506), (115, 1507), (116, 1508), (117, 1509), (118, 1510), (119, 1511), (120, 1512), (121, 1513), (122, 1514), (123, 1520), (124, 1521), (125, 1522)]
def tab5 : List (Int × Int) := [(33, 33), (34, 34), (35, 35), (36, 36), (37, 1642), (38, 38), (39, 39), (40, 40), (41, 41), (42, 1645), (43, 43), (44, 1548), (45, 45), (46, 46), (47, 47), (48, 1632), (49, 1633), (50, 1634), (51, 1635), (52, 1636), (53, 1637), (54, 1638), (55, 1639), (56, 1640), (57, 1641), (58, 58), (59, 1563), (60, 60), (61, 61), (62, 62), (63, 1567), (65, 1569), (66, 1570), (67, 1571), (68, 1572), (69, 1573), (70, 1574), (71, 1575), (72, 1576), (73, 1577), (74, 1578), (75, 1579), (76, 1580), (77, 1581), (78, 1582), (79, 1583), (80, 1584), (81, 1585), (82, 1586), (83, 1587), (84, 1588), (85, 1589), (86, 1590), (87, 1591), (88, 1592), (89, 1593), (90, 1594), (91, 91), (93, 93), (96, 1600), (97, 1601), (98, 1602), (99, 1603), (100, 1604), (101, 1605), (102, 1606), (103, 1607), (104, 1608), (105, 1609), (106, 1610), (107, 1611), (108, 1612), (109, 1613), (110, 1614), (111, 1615), (112, 1616), (113, 1617), (114, 1618), (115, 1649), (116, 1648), (120, 1644), (121, 8221), (122, 8220)]
def tab6 : List (Int × Int) := [(33, 1789), (34, 1650), (35, 1651), (36, 1657), (37, 1658), (38, 1659), (39, 1660), (40, 1661), (41, 1662), (42, 1663), (43, 1664), (44, 1665), (45, 1666), (46, 1667), (47, 1668), (48, 1669), (49, 1670), (50, 1727), (51, 1671), (52, 1672), (53, 1673), (54, 1674), (55, 1675), (56, 1676), (57, 1677), (58, 1678), (59, 1679), (60, 1680), (61, 1681), (62, 1682), (63, 1683), (64, 1684), (65, 1685), (66, 1686), (67, 1687), (68, 1688), (69, 1689), (70, 1690), (71, 1691), (72, 1692), (73, 1786), (74, 1693), (75, 1694), (76, 1787), (77, 1695), (78, 1696), (79, 1788), (80, 1697), (81, 1698), (82, 1699), (83, 1700), (84, 1701), (85, 1702), (86, 1703), (87, 1704), (88, 1705), (89, 1706), (90, 1707), (91, 1708), (92, 1709), (93, 1710), (94, 1711), (95, 1712), (96, 1713), (97, 1714), (98, 1715), (99, 1716), (100, 1717), (101, 1718), (102, 1719), (103, 1720), (104, 1722), (105, 1723), (106, 1724), (107, 1725), (108, 1721), (109, 1726)]
def tab7 : List (Int × Int) := [(33, 33), (34, 34), (35, 35), (36, 36), (37, 37), (38, 38), (39, 39), (40, 40), (41, 41), (42, 42), (43, 43), (44, 44), (45, 45), (46, 46), (47, 47), (48, 48), (49, 49), (50, 50), (51, 51), (52, 52), (53, 53), (54, 54), (55, 55), (56, 56), (57, 57), (58, 58), (59, 59), (60, 60), (61, 61), (62, 62), (63, 63), (64, 1102), (65, 1072), (66, 1073), (67, 1094), (68, 1076), (69, 1077), (70, 1092), (71, 1075), (72, 1093), (73, 1080), (74, 1081), (75, 1082), (76, 1083), (77, 1084), (78, 1085), (79, 1086), (80, 1087), (81, 1103), (82, 1088), (83, 1089), (84, 1090), (85, 1091), (86, 1078), (87, 1074), (88, 1100), (89, 1099), (90, 1079), (91, 1096), (92, 1101), (93, 1097), (94, 1095), (95, 1098), (96, 1070), (97, 1040), (98, 1041), (99, 1062), (100, 1044), (101, 1045), (102, 1060), (103, 1043), (104, 1061), (105, 1048), (106, 1049), (107, 1050), (108, 1051), (109, 1052), (110, 1053), (111, 1054), (112, 1055), (113, 1071), (114, 1056), (115, 1057), (116, 1058), (117, 1059), (118, 1046), (119, 1042), (120, 1068), (121, 1067), (122, 1047), (123, 1064), (124, 1069), (125, 1065), (126, 1063)]
def tab8 : List (Int × Int) := [(64, 1169), (65, 1106), (66, 1107), (67, 1108), (68, 1105), (69, 1109), (70, 1110), (71, 1111), (72, 1112), (73, 1113), (74, 1114), (75, 1115), (76, 1116), (77, 1118), (78, 1119), (80, 1123), (81, 1139), (82, 1141), (83, 1131), (91, 91), (93, 93), (95, 95), (96, 1168), (97, 1026), (98, 1027), (99, 1028), (100, 1025), (101, 1029), (102, 1030), (103, 1031), (104, 1032), (105, 1033), (106, 1034), (107, 1035), (108, 1036), (109, 1038), (110, 1039), (111, 1066), (112, 1122), (113, 1138), (114, 1140), (115, 1130)]
/-- The character of a number, and whether it has one. -/
def look (t : List (Int × Int)) (n : Int) : Int × Bool := match t.find? (fun p => p.1 == n) with
  | some p => (p.2, true)
  | none => (0, false)
theorem look_yes {t : List (Int × Int)} {n r : Int} (h : look t n = (r, true)) : (n, r) ∈ t := by
  unfold look at h
  split at h
  · rename_i p hp
    have h1 := List.find?_some hp
    have h2 := List.mem_of_find?_eq_some hp
    obtain ⟨a, b⟩ := p
    simp at h h1
    subst h h1
    exact h2
  · simp at h
theorem look_no {t : List (Int × Int)} {n r : Int} (h : look t n = (r, false)) : r = 0 := by
  unfold look at h
  split at h
  · simp at h
  · simp at h; exact h.symm
theorem look_hit {t pre rest : List (Int × Int)} {n r : Int} (hA : t = pre ++ (n, r) :: rest) (hp : ∀ p ∈ pre, p.1 ≠ n) : look t n = (r, true) := by
  have : t.find? (fun p => p.1 == n) = some (n, r) := by
    rw [hA, List.find?_append, List.find?_eq_none.2 (fun p h => by simpa using hp p h)]
    simp
  unfold look
  rw [this]
theorem look_miss {t : List (Int × Int)} {n : Int} (hp : ∀ p ∈ t, p.1 ≠ n) : look t n = (0, false) := by
  unfold look
  rw [List.find?_eq_none.2 (fun p h => by simpa using hp p h)]
/-- A list whose characters fit, and are apart. -/
def fine (t : List (Int × Int)) : Bool := t.all (fun p => decide (0 ≤ p.2) && decide (p.2 ≤ 65535)) && t.all (fun p => t.all fun q => (p.2 == q.2) == (p.1 == q.1))
theorem look_fit {t : List (Int × Int)} (ht : fine t = true) {n r : Int} {b : Bool} (h : look t n = (r, b)) : 0 ≤ r ∧ r ≤ 65535 := by
  cases b with
  | true =>
    simp only [fine, Bool.and_eq_true] at ht
    have := List.all_eq_true.1 ht.1 _ (look_yes h)
    simpa using this
  | false => have := look_no h; omega
theorem look_apart {t : List (Int × Int)} (ht : fine t = true) {a b x y : Int} (ha : look t a = (x, true)) (hb : look t b = (y, true)) : (x == y) = (a == b) := by
  simp only [fine, Bool.and_eq_true] at ht
  have h1 := List.all_eq_true.1 ht.2 _ (look_yes ha)
  have h2 := List.all_eq_true.1 h1 _ (look_yes hb)
  exact eq_of_beq h2
theorem fineA : fine tabA = true := by kernel_rfl
theorem fine3 : fine tab3 = true := by kernel_rfl
theorem fine4 : fine tab4 = true := by kernel_rfl
theorem fine5 : fine tab5 = true := by kernel_rfl
theorem fine6 : fine tab6 = true := by kernel_rfl
theorem fine7 : fine tab7 = true := by kernel_rfl
theorem fine8 : fine tab8 = true := by kernel_rfl
theorem tabA_in : tabA.all (fun p => decide (128 ≤ p.2)) = true := by kernel_rfl
theorem tabA_row {p : Int × Int} (h : p ∈ tabA) : 128 ≤ p.2 := by
  have := List.all_eq_true.1 tabA_in p h
  simpa using this
theorem look_97 : look tabA 97 = (768, true) := by kernel_rfl
theorem look_c65 : look tab7 65 = (1072, true) := by kernel_rfl
theorem look_c95 : look tab7 95 = (1098, true) := by kernel_rfl
theorem look_c127 : look tab7 127 = (0, false) := by kernel_rfl
/-- The list of a set. -/
def tabS (s : Nat) : List (Int × Int) := match s with
  | 0 => tab3
  | 1 => tab4
  | 2 => tab5
  | 3 => tab6
  | 4 => tab7
  | _ => tab8
theorem fineS (s : Nat) : fine (tabS s) = true := by
  unfold tabS
  split
  · exact fine3
  · exact fine4
  · exact fine5
  · exact fine6
  · exact fine7
  · exact fine8
theorem cases_all : (List.range 31).all (fun i => (look tab7 (64 + (i : Int))).2 && (look tab7 (96 + (i : Int))).2 && ((look tab7 (64 + (i : Int))).1 == (look tab7 (96 + (i : Int))).1 + 32)) = true := by kernel_rfl
theorem cases_at {k : Int} (h0 : 64 ≤ k) (h1 : k ≤ 94) : ∃ b, look tab7 k = (b + 32, true) ∧ look tab7 (k + 32) = (b, true) := by
  have h := List.all_eq_true.1 cases_all (k - 64).toNat (by simp; omega)
  have e : (64 : Int) + ((k - 64).toNat : Int) = k := by omega
  have e2 : (96 : Int) + ((k - 64).toNat : Int) = k + 32 := by omega
  rw [e, e2] at h
  simp only [Bool.and_eq_true, beq_iff_eq] at h
  refine ⟨(look tab7 (k + 32)).1, ?_, ?_⟩
  · rw [← h.2, ← h.1.1]
  · rw [← h.1.2]

def isD (c : Int) : Bool := decide (48 ≤ c) && decide (c ≤ 57) || decide (65 ≤ c) && decide (c ≤ 70)
def val (c : Int) : Int := if c < 58 then c - 48 else c - 55
theorem isD_true {c : Int} : isD c = true ↔ (48 ≤ c ∧ c ≤ 57) ∨ (65 ≤ c ∧ c ≤ 70) := by simp [isD]
def num (l : List Int) : Int := l.foldl (fun a c => 16 * a + val c) 0
theorem num_snoc (l : List Int) (c : Int) : num (l ++ [c]) = 16 * num l + val c := by simp [num]
theorem D_range {c : Int} (h : isD c = true) : 0 ≤ val c ∧ val c < 16 := by
  rw [isD_true] at h; unfold val; split <;> omega
theorem num_range {l : List Int} (hD : ∀ c ∈ l, isD c = true) (h6 : l.length ≤ 6) : 0 ≤ num l ∧ num l < 16777216 := by
  have key : ∀ k (l : List Int), l.length = k → (∀ c ∈ l, isD c = true) → 0 ≤ num l ∧ num l < 16 ^ k := by
    intro k
    induction k with
    | zero => intro l hl _; rw [List.eq_nil_of_length_eq_zero hl]; simp [num]
    | succ k ih =>
      intro l hl hD
      rcases List.eq_nil_or_concat l with rfl | ⟨t, c, rfl⟩
      · simp at hl
      · have h1 := ih t (by simpa using hl) (fun x hx => hD x (by simp [hx]))
        have h2 := D_range (hD c (by simp))
        rw [List.concat_eq_append, num_snoc]
        have h3 : (16 : Int) ^ (k + 1) = 16 * 16 ^ k := by rw [Int.pow_succ]; omega
        omega
  have h := key l.length l rfl hD
  have h2 : (16 : Int) ^ l.length ≤ 16777216 := by
    rcases (show l.length = 0 ∨ l.length = 1 ∨ l.length = 2 ∨ l.length = 3 ∨ l.length = 4 ∨ l.length = 5 ∨ l.length = 6 by omega) with e | e | e | e | e | e | e <;> rw [e] <;> decide
  omega

end Go.Proofs.YtipigfgnpfhdbaaGreatDoor.U
namespace Go.Proofs.YtipigfgnpfhdbaaGreatDoor.U
open Go.RowKit
set_option linter.unusedVariables false

theorem ret_bool {a b : Bool} (h : a = b) : Ending.returned (.bool a) = .returned (.bool b) := by rw [h]
theorem ret_int {k : IntKind} {a b : Int} (h : a = b) : Ending.returned (.int k a) = .returned (.int k b) := by rw [h]

/-- Nothing that was there is changed. -/
def Bel (w w' : World) : Prop := Below w.heap.size w w'
theorem Bel.refl (w : World) : Bel w w := Below.refl _ _
theorem Bel.trans {a b c : World} (h : Bel a b) (k : Bel b c) : Bel a c := Below.trans h (Below.mono k (Below.size h))
theorem Bel.alloc {a w : World} (h : Bel a w) (o : Obj) : Bel a (w.alloc o) := Below.alloc h (Below.size h) o
theorem Bel.drew {a w : World} (h : Bel a w) : Bel a w.drew := Below.drew h
theorem Bel.drewN {a w : World} (h : Bel a w) (n : Nat) : Bel a (w.drewN n) := ⟨h.os, h.tape, h.output, h.size, h.block⟩

/-- A slice's place A holds the numbers l, in blocks below B. -/
def Rd (w : World) (B : Nat) (k : IntKind) (A : Option Addr) (l : List Int) : Prop :=
  ∀ i x, l[i]? = some x → ∃ g off, A = some ⟨g, off, none⟩ ∧ g < B ∧ w.cell? ⟨g, off + i, none⟩ = some (.int k x)

theorem Rd.below {w w' : World} {B : Nat} {k : IntKind} {A : Option Addr} {l : List Int} (h : Rd w B k A l) (hb : Below B w w') : Rd w' B k A l := fun i x hx => by
  obtain ⟨g, off, e, hg, hc⟩ := h i x hx
  exact ⟨g, off, e, hg, (hb.cell (p := ⟨g, off + i, none⟩) hg).trans hc⟩
theorem Rd.more {w : World} {B B' : Nat} {k : IntKind} {A : Option Addr} {l : List Int} (h : Rd w B k A l) (hb : B ≤ B') : Rd w B' k A l := fun i x hx => by
  obtain ⟨g, off, e, hg, hc⟩ := h i x hx
  exact ⟨g, off, e, by omega, hc⟩
theorem cell_block {w : World} {p : Addr} {v : Value} (h : w.cell? p = some v) : p.block < w.heap.size := by
  rcases Nat.lt_or_ge p.block w.heap.size with hlt | hge
  · exact hlt
  · exfalso
    simp [World.cell?, Array.getElem?_eq_none hge] at h
/-- A row reads as it did behind whatever changes nothing that was there. -/
theorem Rd.bel {w w' : World} {B : Nat} {k : IntKind} {A : Option Addr} {l : List Int} (h : Rd w B k A l) (hb : Bel w w') : Rd w' B k A l := fun i x hx => by
  obtain ⟨g, off, e, hg, hc⟩ := h i x hx
  exact ⟨g, off, e, hg, (Below.cell hb (p := ⟨g, off + i, none⟩) (cell_block hc)).trans hc⟩
theorem Rd.alloc {w : World} {B : Nat} {k : IntKind} {A : Option Addr} {l : List Int} (h : Rd w B k A l) (o : Obj) : Rd (w.alloc o) B k A l := h.bel ((Bel.refl _).alloc o)
theorem Rd.drewN {w : World} {B n : Nat} {kd : IntKind} {A : Option Addr} {l : List Int} (h : Rd w B kd A l) : Rd (w.drewN n) B kd A l := h
theorem Rd.here {w : World} {B : Nat} {k : IntKind} {A : Option Addr} {l : List Int} (h : Rd w B k A l) : Rd w w.heap.size k A l := fun i x hx => by
  obtain ⟨g, off, e, hg, hc⟩ := h i x hx
  exact ⟨g, off, e, cell_block hc, hc⟩
theorem Rd.drop {w : World} {B : Nat} {kd : IntKind} {g off k : Nat} {l : List Int} (h : Rd w B kd (some ⟨g, off, none⟩) l) : Rd w B kd (some ⟨g, off + k, none⟩) (l.drop k) := fun i x hx => by
  rw [List.getElem?_drop] at hx
  obtain ⟨g', off', e, hg, hc⟩ := h (k + i) x hx
  cases e
  exact ⟨g, off + k, rfl, hg, by rw [Nat.add_assoc]; exact hc⟩
theorem Rd.take {w : World} {B : Nat} {kd : IntKind} {A : Option Addr} {k : Nat} {l : List Int} (h : Rd w B kd A l) : Rd w B kd A (l.take k) := fun i x hx => by
  rw [List.getElem?_take] at hx
  split at hx
  · exact h i x hx
  · cases hx
theorem Rd.isSome {w : World} {B : Nat} {k : IntKind} {A : Option Addr} {l : List Int} (h : Rd w B k A l) (hl : 0 < l.length) : ∃ g off, A = some ⟨g, off, none⟩ ∧ g < B ∧ g < w.heap.size := by
  obtain ⟨g, off, e, hg, hc⟩ := h 0 l[0] (by simp)
  exact ⟨g, off, e, hg, cell_block hc⟩
theorem Rd.at {w : World} {B g off : Nat} {k : IntKind} {l : List Int} (h : Rd w B k (some ⟨g, off, none⟩) l) {i : Nat} {x : Int} (hx : l[i]? = Option.some x) : w.cell? ⟨g, off + i, none⟩ = Option.some (.int k x) := by
  obtain ⟨g', o', e, _, hc⟩ := h i x hx
  cases e
  exact hc
theorem Rd.nil {w : World} {B : Nat} {k : IntKind} {A : Option Addr} : Rd w B k A [] := fun i x hx => by simp at hx

theorem own_less {w : World} {base base' : Nat} {e : TypeId} {v : Value} {n : Nat} {xs : List Value} (h : w.ownsRow base e 1 v n xs) (hb : base' ≤ base) : w.ownsRow base' e 1 v n xs := by
  refine ⟨h.1, ?_⟩
  rcases h.2 with h | ⟨g, cap, cur, hv, hbg, rest⟩
  · exact .inl h
  · exact .inr ⟨g, cap, cur, hv, by omega, rest⟩
theorem own_keep {base : Nat} {w w' : World} {e : TypeId} {v : Value} {n : Nat} {xs : List Value} (h : w.ownsRow base e 1 v n xs) (hb : Below w.heap.size w w') : w'.ownsRow base e 1 v n xs := by
  refine ⟨h.1, ?_⟩
  rcases h.2 with h | ⟨g, cap, cur, hv, hbg, hg, rest⟩
  · exact .inl h
  · exact .inr ⟨g, cap, cur, hv, hbg, by rw [hb.block g (Array.getElem?_eq_some_iff.1 hg).1]; exact hg, rest⟩

/-- A row of numbers of the call's own. -/
def Own (w : World) (base : Nat) (e : TypeId) (k : IntKind) (v : Value) (l : List Int) : Prop := w.ownsRow base e 1 v l.length (l.map (Value.int k))
theorem Own.keep {w w' : World} {base : Nat} {e : TypeId} {k : IntKind} {v : Value} {l : List Int} (h : Own w base e k v l) (hb : Bel w w') : Own w' base e k v l := own_keep h hb
theorem Own.less {w : World} {base base' : Nat} {e : TypeId} {k : IntKind} {v : Value} {l : List Int} (h : Own w base e k v l) (hb : base' ≤ base) : Own w base' e k v l := own_less h hb
theorem Own.nil (w : World) (base : Nat) (e : TypeId) (k : IntKind) : Own w base e k (.slice none 0 0) [] := World.ownsRow_nil _ _ _ _
/-- It reads as a slice. -/
theorem Own.rd {w : World} {base : Nat} {e : TypeId} {k : IntKind} {v : Value} {l : List Int} (h : Own w base e k v l) :
    ∃ A cap, v = .slice A l.length cap ∧ l.length ≤ cap ∧ Rd w w.heap.size k A l ∧ (A = none → cap = 0) := by
  rcases h.2 with ⟨rfl, h0⟩ | ⟨g, cap, cur, rfl, hb, hg, hc, _, _, _⟩
  · refine ⟨none, 0, by rw [h0], by omega, fun i x hx => ?_, fun _ => rfl⟩
    have : l = [] := List.eq_nil_of_length_eq_zero h0
    subst this
    simp at hx
  · refine ⟨_, cap, rfl, hc, fun i x hx => ⟨g, 0, rfl, (Array.getElem?_eq_some_iff.1 hg).1, ?_⟩, fun e => by cases e⟩
    have := World.ownsRow.cells h (g := g) rfl i (.int k x) (by simp [hx])
    have hadd : (⟨g, 0, none⟩ : Addr).add i = ⟨g, 0 + i, none⟩ := by unfold Addr.add; split <;> simp_all
    rw [hadd] at this
    exact this
theorem Own.empty (w : World) (e : TypeId) (k : IntKind) : Own (w.alloc (.cells #[] e)) w.heap.size e k (.slice (some ⟨w.heap.size, 0, none⟩) 0 0) [] :=
  World.ownsRow_made w #[] 0 (Nat.le_refl _) (Nat.zero_le _) rfl

/-- What came in as a slice of numbers. -/
def Came (k : IntKind) (w : World) (a : Option Addr) (len cap : Nat) (l : List Int) : Prop :=
  l.length = len ∧ len ≤ cap ∧ Rd w w.heap.size k a l ∧ (a = none → cap = 0) ∧ ∀ x ∈ l, (Lit.int k x).wf = true

theorem addr_add (g off j : Nat) : (⟨g, off, none⟩ : Addr).add j = ⟨g, off + j, none⟩ := by unfold Addr.add; split <;> simp_all
theorem one_cells (k : IntKind) (l : List Int) : ∀ u ∈ l.map (Value.int k), u.oneCell' = true := fun u hu => by
  obtain ⟨x, _, rfl⟩ := List.mem_map.1 hu; rfl

theorem came_of {k : IntKind} {w : World} {a : Option Addr} {len cap : Nat} {zs : List Int}
    (h : (a = none ∧ len = 0 ∧ cap = 0 ∧ zs = []) ∨ ∃ x, a = some x ∧ len ≤ cap ∧ cap ≤ maxLen ∧ zs.length = cap ∧ (∀ i, i < zs.length → w.cell? (x.add i) = some (.int k (zs.getD i 0))) ∧ ∀ n ∈ zs, (Lit.int k n).wf = true) :
    ∃ l, Came k w a len cap l := by
  rcases h with ⟨rfl, rfl, rfl, rfl⟩ | ⟨x, rfl, hl, _, hz, hc, hw⟩
  · exact ⟨[], rfl, Nat.le_refl _, fun i x hx => by simp at hx, fun _ => rfl, by simp⟩
  · refine ⟨zs.take len, by simp; omega, hl, fun i y hy => ?_, (fun e => by cases e), fun y hy => hw y (List.mem_of_mem_take hy)⟩
    rw [List.getElem?_take] at hy
    split at hy
    · rename_i hi
      have h1 := hc i (by omega)
      have h2 : zs.getD i 0 = y := by simp [List.getD, hy]
      rw [h2] at h1
      have h3 := hc 0 (by omega)
      obtain ⟨b, o, sp⟩ := x
      have hsp : sp = none := by simpa [Addr.add] using World.cell?_spot h3
      subst hsp
      rw [addr_add] at h1
      exact ⟨b, o, rfl, cell_block h1, h1⟩
    · cases hy

section
variable {P : Program} {w : World}

/-- 'append' onto a row of the call's own, from a slice that reads as numbers, nil or not: the row is longer by these, and nothing below its base is changed. -/
theorem run_append {t ty e : TypeId} {base : Nat} {i : TypeInfo} {z : Value} {bytes : Nat} (ht : P.underlying t = some (.slice e)) (hi : P.info? e = some i) (hz : i.zero = some z)
    (hsize : i.size = 1) (hby : i.bytes = bytes) (hzs : z.cells.size = 1) (hb8 : bytes ≤ 8)
    {k : IntKind} {v : Value} {xs : List Int} (hown : Own w base e k v xs)
    {B : Nat} {A : Option Addr} {m c : Nat} {ys : List Int} (hr : Rd w B k A ys) (hm : ys.length = m) (hnil : A = none → c = 0)
    (hn : xs.length + m ≤ 100000) (hbase : base ≤ w.heap.size) :
    ∃ v' w', (Builtin.append_ #[t, t] ty #[v, .slice A m c]).run P w = .ok v' w' ∧ Own w' base e k v' (xs ++ ys) ∧ Below base w w' := by
  have h63 : xs.length + m ≤ maxLen := by simp only [maxLen]; omega
  have hbytes : (xs.length + m) * bytes ≤ 140737488355328 := Nat.le_trans (Nat.mul_le_mul hn hb8) (by decide)
  have fin : ∀ v' w', w'.ownsRow base e 1 v' (xs.length + m) (xs.map (Value.int k) ++ ys.map (Value.int k)) → w.grownBy w' v.ownBlock → Own w' base e k v' (xs ++ ys) ∧ Below base w w' := by
    intro v' w' h2 h3
    refine ⟨by unfold Own; simpa [hm] using h2, (Below.refl _ _).grown h3 hbase fun g hg => (World.ownsRow.lt hown g hg).1⟩
  rcases A with _ | ad
  · obtain rfl : c = 0 := hnil rfl
    have hy : ys = [] := by
      rcases ys with _ | ⟨y, ys⟩
      · rfl
      · obtain ⟨_, _, e, _⟩ := hr 0 y rfl
        cases e
    subst hy
    obtain rfl : m = 0 := by simpa using hm.symm
    exact ⟨v, w, run_append_owned_none w base t ty e i 1 ht hi v _ _ hown, by simpa using hown, Below.refl _ _⟩
  · have hnews : ∀ j u, (ys.map (Value.int k))[j]? = some u → w.cell? (ad.add j) = some u := by
      intro j u hu
      rw [List.getElem?_map] at hu
      obtain ⟨y, hy, rfl⟩ := Option.map_eq_some_iff.1 hu
      obtain ⟨g, off, e, _, hc⟩ := hr j y hy
      cases e
      rw [addr_add]; exact hc
    obtain ⟨v', w', h1, h2, h3, _⟩ := run_append_own_at (P := P) w base t ty e i z 1 bytes ht hi hz hsize hby hzs (by omega) v _ _ hown ad m c (ys.map (Value.int k)) (by simp [hm]) hnews (one_cells k ys) h63 hbytes hbase
    exact ⟨v', w', h1, fin v' w' h2 h3⟩

theorem wp_append {o : Oper} {a : Act} {K : Act → World → Prop} {Q : Exit → Act → World → Prop} (s x : Operand) (t : TypeId)
    (ho : o.op = .call { callee := .builtin .append, args := #[s, x], argTypes := #[t, t] })
    {e : TypeId} {base : Nat} {i : TypeInfo} {z : Value} {bytes : Nat} (ht : P.underlying t = some (.slice e)) (hi : P.info? e = some i) (hz : i.zero = some z)
    (hsize : i.size = 1) (hby : i.bytes = bytes) (hzs : z.cells.size = 1) (hb8 : bytes ≤ 8)
    {k : IntKind} {v : Value} {xs : List Int} (hown : Own w base e k v xs) (hs : a.eval s = v)
    {B : Nat} {A : Option Addr} {m c : Nat} {ys : List Int} (hr : Rd w B k A ys) (hx : a.eval x = .slice A m c) (hm : ys.length = m) (hnil : A = none → c = 0)
    (hn : xs.length + m ≤ 100000) (hbase : base ≤ w.heap.size)
    (h : ∀ v' w', Own w' base e k v' (xs ++ ys) → Below base w w' → K (a.put o.dst v') w') : o.wp P a w K Q := by
  obtain ⟨v', w', hrun, h2, h3⟩ := run_append (P := P) (ty := o.type) ht hi hz hsize hby hzs hb8 hown hr hm hnil hn hbase
  unfold Oper.wp execOp
  simp only [ho, resolve, invoke, builtin, Sem.run_bind, Sem.run_pure, Result.andThen_ok, List.map_toArray, List.map_cons, List.map_nil, hs, hx, hrun]
  exact h v' w' h2 h3

theorem wpl_append {ops : Array Oper} {rest : List Oper} {o : Oper} {a : Act} {Q : Exit → Act → World → Prop} (hw : Region.wanted o (yielded ops a.tmps) = true) (s x : Operand) (t : TypeId)
    (ho : o.op = .call { callee := .builtin .append, args := #[s, x], argTypes := #[t, t] })
    {e : TypeId} {base : Nat} {i : TypeInfo} {z : Value} {bytes : Nat} (ht : P.underlying t = some (.slice e)) (hi : P.info? e = some i) (hz : i.zero = some z)
    (hsize : i.size = 1) (hby : i.bytes = bytes) (hzs : z.cells.size = 1) (hb8 : bytes ≤ 8)
    {k : IntKind} {v : Value} {xs : List Int} (hown : Own w base e k v xs) (hs : a.eval s = v)
    {B : Nat} {A : Option Addr} {m c : Nat} {ys : List Int} (hr : Rd w B k A ys) (hx : a.eval x = .slice A m c) (hm : ys.length = m) (hnil : A = none → c = 0)
    (hn : xs.length + m ≤ 100000) (hbase : base ≤ w.heap.size)
    (h : ∀ v' w', Own w' base e k v' (xs ++ ys) → Below base w w' → wpList P ops Q rest (a.put o.dst v') w') : wpList P ops Q (o :: rest) a w :=
  BigFrame.wpList_want hw fun _ hK => wp_append s x t ho ht hi hz hsize hby hzs hb8 hown hs hr hx hm hnil hn hbase fun v' w' h2 h3 => hK _ _ (h v' w' h2 h3)
end

/-- Numbers as a string. -/
def bs (l : List Int) : List UInt8 := l.map fun x => UInt8.ofNat x.toNat
def str (l : List Int) : ByteArray := ⟨(bs l).toArray⟩
theorem bs_length (l : List Int) : (bs l).length = l.length := by simp [bs]
theorem str_size (l : List Int) : (str l).size = l.length := by simp [str, ByteArray.size, bs]
theorem bs_append (a b : List Int) : bs (a ++ b) = bs a ++ bs b := by simp [bs]
theorem toNat_of {x : Int} (h0 : 0 ≤ x) (h1 : x < 256) : (UInt8.ofNat x.toNat).toNat = x.toNat := by
  simp; omega
section
variable {P : Program}

/-- 'string(b)' of bytes. -/
theorem run_str_bytes (w : World) (src dst e : TypeId) (hs : P.underlying src = some (.slice e)) (he : P.underlying e = some (.int .u8)) (hd : P.underlying dst = some .string)
    {B : Nat} {g off n c : Nat} {l : List Int} (h : Rd w B .u8 (some ⟨g, off, none⟩) l) (hn : l.length = n) (hl : ∀ x ∈ l, 0 ≤ x ∧ x < 256) :
    (convert src dst (.slice (some ⟨g, off, none⟩) n c)).run P w = .ok (.string (str l)) w := by
  have e1 : n = (bs l).length := by rw [bs_length, hn]
  rw [e1]
  refine run_convert_bytes_back w src dst e ⟨g, off, none⟩ c (bs l) hs he hd fun j hj => ?_
  have hj' : j < l.length := by rwa [bs_length] at hj
  have := h.at (i := j) (x := l[j]) (List.getElem?_eq_getElem hj')
  rw [addr_add, this]
  simp only [bs, List.getElem_map]
  have hx := hl l[j] (List.getElem_mem hj')
  rw [toNat_of hx.1 hx.2]
  congr 2
  omega

/-- '[]byte(s)': read alone. -/
theorem run_bytes_str (w : World) (src dst e : TypeId) (hs : P.underlying src = some .string) (hd : P.underlying dst = some (.slice e)) (he : P.underlying e = some (.int .u8))
    {l : List Int} {n : Nat} (h : ∀ x ∈ l, 0 ≤ x ∧ x < 256) (hl : l.length = n) :
    ∃ cap w', (convert src dst (.string (str l))).run P w = .ok (.slice (some ⟨w.heap.size, 0, none⟩) n cap) w' ∧ Rd w' (w.heap.size + 1) .u8 (some ⟨w.heap.size, 0, none⟩) l ∧ Bel w w' := by
  have hrun := run_bytes_of_string (P := P) w src dst e (str l) hs hd he
  rw [str_size, hl] at hrun
  refine ⟨_, _, hrun, fun i x hx => ⟨w.heap.size, 0, rfl, Nat.lt_succ_self _, ?_⟩, (Bel.refl w).drew.alloc _⟩
  have h1 := World.cell?_alloc_mark w.drew (bytesRow (str l) (grownCap w n 0 e)) e ((bytesRow (str l) (grownCap w n 0 e)).size, (bytesRow (str l) (grownCap w n 0 e)).size + 1) i
  have hlt : i < l.length := (List.getElem?_eq_some_iff.1 hx).1
  have h2 := bytesRow_at (str l) (grownCap w n 0 e) i (by simp [str, bs]; exact hlt)
  rw [Nat.zero_add]
  refine h1.trans (h2.trans ?_)
  have hv : l[i] = x := (List.getElem?_eq_some_iff.1 hx).2
  have hb := h x (by rw [← hv]; exact List.getElem_mem hlt)
  simp only [str, bs, List.getElem_toArray, List.getElem_map, hv]
  rw [toNat_of hb.1 hb.2]
  congr 2
  omega

end
/-- A row to which one can append: the call's own, or one that is full. -/
def Ext (w : World) (base : Nat) (e : TypeId) (k : IntKind) (v : Value) (l : List Int) : Prop :=
  Own w base e k v l ∨ ∃ g off, v = .slice (some ⟨g, off, none⟩) l.length l.length ∧ Rd w w.heap.size k (some ⟨g, off, none⟩) l
theorem Ext.keep {w w' : World} {base : Nat} {e : TypeId} {k : IntKind} {v : Value} {l : List Int} (h : Ext w base e k v l) (hb : Bel w w') : Ext w' base e k v l := by
  rcases h with h | ⟨g, off, rfl, hr⟩
  · exact .inl (h.keep hb)
  · exact .inr ⟨g, off, rfl, (hr.bel hb).here⟩
theorem Ext.rd {w : World} {base : Nat} {e : TypeId} {k : IntKind} {v : Value} {l : List Int} (h : Ext w base e k v l) :
    ∃ A cap, v = .slice A l.length cap ∧ l.length ≤ cap ∧ Rd w w.heap.size k A l ∧ (A = none → cap = 0) := by
  rcases h with h | ⟨g, off, rfl, hr⟩
  · exact h.rd
  · exact ⟨_, _, rfl, Nat.le_refl _, hr, fun e => by cases e⟩

section
variable {P : Program} {w : World}
theorem run_append_ext {t ty e : TypeId} {base : Nat} {i : TypeInfo} {z : Value} {bytes : Nat} (ht : P.underlying t = some (.slice e)) (hi : P.info? e = some i) (hz : i.zero = some z)
    (hsize : i.size = 1) (hby : i.bytes = bytes) (hzs : z.cells.size = 1) (hb8 : bytes ≤ 8)
    {k : IntKind} {v : Value} {xs : List Int} (hext : Ext w base e k v xs)
    {B : Nat} {A : Option Addr} {m c : Nat} {ys : List Int} (hr : Rd w B k A ys) (hm : ys.length = m) (hm0 : 0 < m)
    (hn : xs.length + m ≤ 100000) (hbase : base ≤ w.heap.size) :
    ∃ v' w', (Builtin.append_ #[t, t] ty #[v, .slice A m c]).run P w = .ok v' w' ∧ Own w' base e k v' (xs ++ ys) ∧ Below base w w' := by
  obtain ⟨g1, o1, rfl, _, _⟩ := hr.isSome (by omega)
  rcases hext with hown | ⟨g, off, rfl, hr0⟩
  · exact run_append ht hi hz hsize hby hzs hb8 hown hr hm (fun e => by cases e) hn hbase
  · have h63 : xs.length + m ≤ maxLen := by simp only [maxLen]; omega
    have hbytes : (xs.length + m) * bytes ≤ 140737488355328 := Nat.le_trans (Nat.mul_le_mul hn hb8) (by decide)
    have cells : ∀ {B : Nat} {g o : Nat} {l : List Int}, Rd w B k (some ⟨g, o, none⟩) l → ∀ j u, (l.map (Value.int k))[j]? = some u → w.cell? ((⟨g, o, none⟩ : Addr).add j) = some u := by
      intro B g o l hl j u hu
      rw [List.getElem?_map] at hu
      obtain ⟨y, hy, rfl⟩ := Option.map_eq_some_iff.1 hu
      rw [addr_add]; exact hl.at hy
    obtain ⟨v', w', hrun, h2, h3⟩ := run_append_arg_grows (P := P) w t ty e i z 1 bytes ht hi hz hsize hby hzs (by omega) ⟨g, off, none⟩ xs.length xs.length (xs.map (Value.int k)) (by simp) (cells hr0) ⟨g1, o1, none⟩ m c (ys.map (Value.int k)) (by simp [hm]) (cells hr) (by omega) h63 hbytes
    refine ⟨v', w', hrun, ?_, (Below.refl _ _).grown h3 hbase (fun k e => by cases e)⟩
    have := own_less h2 hbase
    unfold Own
    simpa [hm] using this

theorem wpl_append_ext {ops : Array Oper} {rest : List Oper} {o : Oper} {a : Act} {Q : Exit → Act → World → Prop} (hw : Region.wanted o (yielded ops a.tmps) = true) (s x : Operand) (t : TypeId)
    (ho : o.op = .call { callee := .builtin .append, args := #[s, x], argTypes := #[t, t] })
    {e : TypeId} {base : Nat} {i : TypeInfo} {z : Value} {bytes : Nat} (ht : P.underlying t = some (.slice e)) (hi : P.info? e = some i) (hz : i.zero = some z)
    (hsize : i.size = 1) (hby : i.bytes = bytes) (hzs : z.cells.size = 1) (hb8 : bytes ≤ 8)
    {k : IntKind} {v : Value} {xs : List Int} (hown : Ext w base e k v xs) (hs : a.eval s = v)
    {B : Nat} {A : Option Addr} {m c : Nat} {ys : List Int} (hr : Rd w B k A ys) (hx : a.eval x = .slice A m c) (hm : ys.length = m) (hm0 : 0 < m)
    (hn : xs.length + m ≤ 100000) (hbase : base ≤ w.heap.size)
    (h : ∀ v' w', Own w' base e k v' (xs ++ ys) → Below base w w' → wpList P ops Q rest (a.put o.dst v') w') : wpList P ops Q (o :: rest) a w :=
  BigFrame.wpList_want hw fun _ hK => by
    obtain ⟨v', w', hrun, h2, h3⟩ := run_append_ext (P := P) (ty := o.type) (c := c) ht hi hz hsize hby hzs hb8 hown hr hm hm0 hn hbase
    unfold Oper.wp execOp
    simp only [ho, resolve, invoke, builtin, Sem.run_bind, Sem.run_pure, Result.andThen_ok, List.map_toArray, List.map_cons, List.map_nil, hs, hx, hrun]
    exact hK _ _ (h v' w' h2 h3)
end

theorem str_cells {l : List Int} (h : ∀ x ∈ l, 0 ≤ x ∧ x < 256) : Lib.strCells (str l) = l.map (Value.int .u8) := by
  unfold Lib.strCells str bs
  simp only [List.map_map]
  apply List.map_congr_left
  intro x hx
  have := h x hx
  simp only [Function.comp]
  rw [toNat_of this.1 this.2]
  congr 1
  omega

section
variable {P : Program} {w : World}
theorem run_append_str {t u ty e : TypeId} {base : Nat} {i : TypeInfo} (ht : P.underlying t = some (.slice e)) (hu : P.underlying u = some .string) (hi : P.info? e = some i) (hz : i.zero = some (.int .u8 0))
    (hsize : i.size = 1) (hby : i.bytes = 1)
    {v : Value} {xs ys : List Int} (hext : Ext w base e .u8 v xs) (hy : ∀ x ∈ ys, 0 ≤ x ∧ x < 256) (hm0 : 0 < ys.length)
    (hn : xs.length + ys.length ≤ 100000) (hbase : base ≤ w.heap.size) :
    ∃ v' w', (Builtin.append_ #[t, u] ty #[v, .string (str ys)]).run P w = .ok v' w' ∧ Own w' base e .u8 v' (xs ++ ys) ∧ Below base w w' := by
  rcases hext with hown | ⟨g, off, rfl, hr0⟩
  · obtain ⟨v', w', hr, h2, h3, _⟩ := Lib.run_append_own_string (P := P) w base t u ty e i ht hu hi hz hsize hby v _ _ hown (str ys) (by rw [str_size]; simp only [maxLen]; omega) (by rw [str_size]; omega) hbase
    refine ⟨v', w', hr, ?_, (Below.refl _ _).grown h3 hbase fun g hg => (World.ownsRow.lt hown g hg).1⟩
    rw [str_cells hy, str_size] at h2
    unfold Own
    simpa using h2
  · have cells : ∀ j u, (xs.map (Value.int .u8))[j]? = some u → w.cell? ((⟨g, off, none⟩ : Addr).add j) = some u := by
      intro j u hu
      rw [List.getElem?_map] at hu
      obtain ⟨y, hy, rfl⟩ := Option.map_eq_some_iff.1 hu
      rw [addr_add]; exact hr0.at hy
    have hr := Lib.run_append_grow_string (P := P) w t u ty e i (.int .u8 0) ht hu hi hz ⟨g, off, none⟩ xs.length xs.length (xs.map (Value.int .u8)) (by rw [hsize]; simp) cells (str ys) (by rw [str_size]; omega) (by rw [str_size]; omega) (by rw [hby]; exact growslice_fits (by rw [str_size]; omega) (by rw [str_size]; omega))
    rw [str_size, str_cells hy] at hr
    have hge := grownCap_ge w (xs.length + ys.length) xs.length e
    have hcm : grownCap w (xs.length + ys.length) xs.length e ≤ maxLen := grownCap_le_maxLen w _ _ e (by simp only [maxLen]; omega)
    refine ⟨_, _, hr, ⟨by simp, .inr ⟨w.heap.size, _, _, by simp, hbase, heap_alloc_new w.drew _, by simpa using hge, hcm, ?_, ?_⟩⟩, ((Below.refl _ _).drew).alloc hbase _⟩
    · have hz1 : (Value.int IntKind.u8 0).cells.size = 1 := rfl
      simp only [Array.size_append, List.size_toArray, size_zeroCells, hz1, List.length_map]
      omega
    · simp only [Array.toList_append, List.append_assoc]
      rw [← List.append_assoc, ← List.map_append, show ((xs ++ ys).length * 1) = ((xs ++ ys).map (Value.int .u8)).length by simp]
      exact List.take_left
theorem wpl_append_str {ops : Array Oper} {rest : List Oper} {o : Oper} {a : Act} {Q : Exit → Act → World → Prop} (hw : Region.wanted o (yielded ops a.tmps) = true) (s x : Operand) (t u : TypeId)
    (ho : o.op = .call { callee := .builtin .append, args := #[s, x], argTypes := #[t, u] })
    {e : TypeId} {base : Nat} {i : TypeInfo} (ht : P.underlying t = some (.slice e)) (hu : P.underlying u = some .string) (hi : P.info? e = some i) (hz : i.zero = some (.int .u8 0))
    (hsize : i.size = 1) (hby : i.bytes = 1)
    {v : Value} {xs ys : List Int} (hext : Ext w base e .u8 v xs) (hs : a.eval s = v) (hx : a.eval x = .string (str ys)) (hy : ∀ x ∈ ys, 0 ≤ x ∧ x < 256) (hm0 : 0 < ys.length)
    (hn : xs.length + ys.length ≤ 100000) (hbase : base ≤ w.heap.size)
    (h : ∀ v' w', Own w' base e .u8 v' (xs ++ ys) → Below base w w' → wpList P ops Q rest (a.put o.dst v') w') : wpList P ops Q (o :: rest) a w :=
  BigFrame.wpList_want hw fun _ hK => by
    obtain ⟨v', w', hrun, h2, h3⟩ := run_append_str (P := P) (ty := o.type) ht hu hi hz hsize hby hext hy hm0 hn hbase
    unfold Oper.wp execOp
    simp only [ho, resolve, invoke, builtin, Sem.run_bind, Sem.run_pure, Result.andThen_ok, List.map_toArray, List.map_cons, List.map_nil, hs, hx, hrun]
    exact hK _ _ (h v' w' h2 h3)
end
theorem str_extract (l : List Int) (a b : Nat) : (str l).extract a b = str ((l.drop a).take (b - a)) := by
  unfold str
  rw [ByteArray.extract_mk]
  simp only [bs, List.map_take, List.map_drop]
/-- A string as numbers. -/
def sn (S : ByteArray) : List Int := S.data.toList.map fun c => Int.ofNat c.toNat
theorem str_sn (S : ByteArray) : str (sn S) = S := by
  apply ByteArray.ext
  have e : ((fun x : Int => UInt8.ofNat x.toNat) ∘ fun c : UInt8 => Int.ofNat c.toNat) = id := by
    funext c
    simp
  simp only [str, bs, sn, List.map_map, e, List.map_id, Array.toArray_toList]
end Go.Proofs.YtipigfgnpfhdbaaGreatDoor.U
namespace Go.Proofs.YtipigfgnpfhdbaaGreatDoor.U
open Go.RowKit Go.Shelf
set_option linter.unusedVariables false

/-- Below E nothing is touched but the blocks from b0 up to b1. -/
structure Tch (b0 b1 E : Nat) (W W' : World) : Prop where
  os : W'.os = W.os
  tape : W'.tape = W.tape
  output : W'.output = W.output
  size : W.heap.size ≤ W'.heap.size
  block : ∀ j, j < E → ¬ (b0 ≤ j ∧ j < b1) → W'.heap[j]? = W.heap[j]?
/-- The blocks from b0 up to b1 lie as they lay, and so do those from E on that were there. -/
structure Kep (b0 b1 E : Nat) (W W' : World) : Prop where
  size : W.heap.size ≤ W'.heap.size
  block : ∀ j, j < W.heap.size → (b0 ≤ j ∧ j < b1) ∨ E ≤ j → W'.heap[j]? = W.heap[j]?
theorem Tch.refl (b0 b1 E : Nat) (W : World) : Tch b0 b1 E W W := ⟨rfl, rfl, rfl, Nat.le_refl _, fun _ _ _ => rfl⟩
theorem Tch.trans {b0 b1 E : Nat} {A B C : World} (h : Tch b0 b1 E A B) (k : Tch b0 b1 E B C) : Tch b0 b1 E A C :=
  ⟨k.os.trans h.os, k.tape.trans h.tape, k.output.trans h.output, Nat.le_trans h.size k.size, fun j h1 h2 => (k.block j h1 h2).trans (h.block j h1 h2)⟩
theorem Tch.below {b0 b1 E : Nat} {W W' : World} (h : Below E W W') : Tch b0 b1 E W W' := ⟨h.os, h.tape, h.output, h.size, fun j h1 _ => h.block j h1⟩
theorem Tch.to_below {b0 b1 E B : Nat} {W W' : World} (h : Tch b0 b1 E W W') (h0 : B ≤ b0) (h1 : B ≤ E) : Below B W W' := ⟨h.os, h.tape, h.output, h.size, fun j hj => h.block j (by omega) (by omega)⟩
theorem Tch.mono {b0 b1 E E' : Nat} {W W' : World} (h : Tch b0 b1 E W W') (hE : E' ≤ E) : Tch b0 b1 E' W W' := ⟨h.os, h.tape, h.output, h.size, fun j h1 h2 => h.block j (by omega) h2⟩
theorem Tch.of_bel {b0 b1 E : Nat} {W W' : World} (h : Bel W W') (hE : E ≤ W.heap.size) : Tch b0 b1 E W W' := Tch.below (Below.mono h hE)
theorem Tch.put {b0 b1 E : Nat} (W : World) (l : Nat) (o : Obj) (hl : E ≤ l ∨ (b0 ≤ l ∧ l < b1)) : Tch b0 b1 E W (W.putObj l o) :=
  ⟨rfl, rfl, rfl, by rw [World.putObj_size]; exact Nat.le_refl _, fun j h1 h2 => World.putObj_heap_other (by omega)⟩
theorem Tch.cell {b0 b1 E : Nat} (W : World) (p : Addr) (v : Value) (hl : E ≤ p.block ∨ (b0 ≤ p.block ∧ p.block < b1)) : Tch b0 b1 E W (W.setCell p v) :=
  ⟨rfl, rfl, rfl, by simp [World.setCell], fun j h1 h2 => Below.heap_setCell _ _ _ _ (by omega)⟩
theorem Tch.boxed {b0 b1 E B t : Nat} {v : Value} {W W' : World} (h : Tch b0 b1 E W W') (hb : Boxed W B t v) (h1 : B < E) (h2 : ¬ (b0 ≤ B ∧ B < b1)) : Boxed W' B t v := (h.block B h1 h2).trans hb
theorem Kep.refl (b0 b1 E : Nat) (W : World) : Kep b0 b1 E W W := ⟨Nat.le_refl _, fun _ _ _ => rfl⟩
theorem Kep.trans {b0 b1 E : Nat} {A B C : World} (h : Kep b0 b1 E A B) (k : Kep b0 b1 E B C) : Kep b0 b1 E A C :=
  ⟨Nat.le_trans h.size k.size, fun j h1 h2 => (k.block j (Nat.lt_of_lt_of_le h1 h.size) h2).trans (h.block j h1 h2)⟩
theorem Kep.of_bel {b0 b1 E : Nat} {W W' : World} (h : Bel W W') : Kep b0 b1 E W W' := ⟨Below.size h, fun j h1 _ => Below.block h j h1⟩
theorem Kep.mono {b0 b1 E E' : Nat} {W W' : World} (h : Kep b0 b1 E W W') (hE : E ≤ E') : Kep b0 b1 E' W W' := ⟨h.size, fun j h1 h2 => h.block j h1 (by omega)⟩
/-- What keeps all from E on keeps other blocks beyond it. -/
theorem Kep.wide {b0 b1 c0 c1 E E' : Nat} {W W' : World} (h : Kep b0 b1 E W W') (h0 : E ≤ c0) (hE : E ≤ E') : Kep c0 c1 E' W W' := ⟨h.size, fun j h1 h2 => h.block j h1 (by omega)⟩
theorem Kep.put {b0 b1 E : Nat} (W : World) (l : Nat) (o : Obj) (hl : l < E) (h2 : b1 ≤ l) : Kep b0 b1 E W (W.putObj l o) :=
  ⟨by rw [World.putObj_size]; exact Nat.le_refl _, fun j _ h => World.putObj_heap_other (by omega)⟩
theorem Kep.cell {b0 b1 E : Nat} (W : World) (p : Addr) (v : Value) (hl : p.block < E) (h2 : ¬ (b0 ≤ p.block ∧ p.block < b1)) : Kep b0 b1 E W (W.setCell p v) :=
  ⟨by simp [World.setCell], fun j _ h => Below.heap_setCell _ _ _ _ (by omega)⟩
theorem Kep.boxed {b0 b1 E B t : Nat} {v : Value} {W W' : World} (h : Kep b0 b1 E W W') (hb : Boxed W B t v) (h1 : (b0 ≤ B ∧ B < b1) ∨ E ≤ B) : Boxed W' B t v := (h.block B hb.lt h1).trans hb

theorem boxed_bel {W W' : World} {B t : Nat} {v : Value} (h : Boxed W B t v) (hb : Bel W W') : Boxed W' B t v := (hb.block B h.lt).trans h
theorem roundIn_any {m m' : Nat} {P : Program} {l : Nat} {f : FuncId} {tmps : Array Value} {assign body : Code} {w : World} {R : Ending → World → Prop} (h : RoundIn Fence.wide m P l f tmps assign body w R) : RoundIn Fence.wide m' P l f tmps assign body w R :=
  ⟨h.1, fun c cs _ => h.2 c cs (room_wide _)⟩
/-- What an iterator tells its caller, told one by one: the list tb, in order, until it is told to stop. Z: what it asks of the world; its state lies in the blocks from b0 up to b1. -/
def Seq {α : Type} (P : Program) (encs : α → Array Value) (tb : List α) (b0 b1 gf : Nat) (pb lb : Array Value) (Z : World → Prop) (Wz : World) : Prop :=
  ∀ (l E : Nat) (J Jx : List α → World → Prop), (∀ pre W, J pre W → Z W) →
    (∀ pre W W', J pre W → Tch b0 b1 E W W' → J pre W') → (∀ pre W W', Jx pre W → Tch b0 b1 E W W' → Jx pre W') →
    (∀ pre x W, J pre W → (∃ rest, tb = pre ++ x :: rest) → YieldAt Fence.wide 0 P l (encs x) W fun e W' =>
      ((e = .returned (.bool true) ∧ J (pre ++ [x]) W') ∨ (e = .returned (.bool false) ∧ Jx (pre ++ [x]) W')) ∧ Kep b0 b1 E W W') →
    ∀ W, Wz.heap.size ≤ l → l < E → E ≤ W.heap.size → (∀ j, b0 ≤ j → j < b1 → W.heap[j]? = Wz.heap[j]?) → J [] W →
      Calls P gf (pb ++ #[.func (.yield l) #[] #[]] ++ lb) W fun e W' => (∃ v, e = .returned v) ∧ (J tb W' ∨ ∃ pre, Jx pre W')

/-- How a round may be left: it goes on, or it returns; what is the iterator's own lies as it lay. -/
def endsB {α : Type} (b0 b1 E : Nat) (I : List α → World → Prop) (Ix : World → Prop) (pre : List α) (W : World) : Exit → Act → World → Prop
  | .normal, _, W' => Kep b0 b1 E W W' ∧ I pre W'
  | .ret, _, W' => Kep b0 b1 E W W' ∧ Ix W'
  | _, _, _ => False

section
variable {α : Type} (encs : α → Array Value) (tb : List α) (b0 b1 : Nat) {P : Program} {m gf : Nat} {g : Operand} {ps : Array Tmp} {assign body : Code} {Q : Exit → Act → World → Prop} {a : Act} {Wz : World} {pb lb : Array Value} {Z : World → Prop}
theorem range_top (h1 : 1 ≤ m) (hb : b1 ≤ Wz.heap.size) (hg : a.eval g = .func (.func gf) pb lb) (eg : ∀ args w, (callFunc gf args).run P w = .ok (.enter gf args) w) (hps : ∀ x, (encs x).size = ps.size)
    (hseq : Seq P encs tb b0 b1 gf pb lb Z Wz) (I : List α → World → Prop) (Ix : World → Prop) (hIZ : ∀ pre W, I pre W → Z W)
    (hI : ∀ pre W W', I pre W → Tch b0 b1 Wz.heap.size W W' → I pre W') (hX : ∀ W W', Ix W → Tch b0 b1 Wz.heap.size W W' → Ix W') (h0 : I [] Wz) (a₁ : α → Act)
    (hassign : ∀ (l : Nat) (x : α) (W : World) (K : Act → World → Prop), K (a₁ x) W →
      assign.wpIn (Fence.wide.inRound l) (m - 1 - 1) P (Exit.then K (fun _ _ _ => False)) { tmps := (ps.zip (encs x)).foldl (fun t (p, v) => t.setIfInBounds p v) a.tmps, defers := [] } W)
    (hbody : ∀ (l : Nat) (pre : List α) (x : α) (W : World), Wz.heap.size ≤ l → (∃ r, W.heap[l]? = some (.loop r)) → I pre W → (∃ rest, tb = pre ++ x :: rest) →
      body.wpIn (Fence.wide.inRound l) (m - 1 - 1) P (endsB b0 b1 Wz.heap.size I Ix (pre ++ [x]) W) (a₁ x) W)
    (hdone : ∀ W, I tb W → W.heap[Wz.heap.size]? = some (.deferred (some [])) → Q .normal { a with defers := { target := .collected Wz.heap.size, args := #[] } :: a.defers } W)
    (hstop : ∀ W, Ix W → W.heap[Wz.heap.size]? = some (.deferred (some [])) → Code.ret.wpIn Fence.wide m P Q { a with defers := { target := .collected Wz.heap.size, args := #[] } :: a.defers } W) :
    (Code.rangeFunc g ps assign body).wpIn Fence.wide m P Q a Wz := by
  refine wpIn_rangeFunc fun fn _ => ?_
  let rc : LoopState → Option Code → Loop := fun st pe => { state := st, pending := pe, fn, tmps := a.tmps, params := ps, assign, body, defers := Wz.heap.size }
  let W1 : World := (Wz.alloc (.deferred (some []))).alloc (.loop (rc .ready none))
  have hsz : (Wz.alloc (.deferred (some []))).heap.size = Wz.heap.size + 1 := World.size_alloc _ _
  have hsz1 : W1.heap.size = Wz.heap.size + 2 := by
    show ((Wz.alloc (.deferred (some []))).alloc (.loop (rc .ready none))).heap.size = _
    rw [World.size_alloc, hsz]
  have hB1 : Bel Wz W1 := ((Bel.refl Wz).alloc _).alloc _
  have hl1 : W1.heap[Wz.heap.size + 1]? = some (.loop (rc .ready none)) := by
    have h := World.alloc_heap_new (Wz.alloc (.deferred (some []))) (.loop (rc .ready none))
    rwa [hsz] at h
  have hd1 : W1.heap[Wz.heap.size]? = some (.deferred (some [])) :=
    (Below.block ((Bel.refl (Wz.alloc (.deferred (some [])))).alloc (.loop (rc .ready none))) _ (by rw [hsz]; omega)).trans (World.alloc_heap_new Wz _)
  have put_d : ∀ (W : World) (o : Obj), W.heap[Wz.heap.size]? = some (.deferred (some [])) → (W.putObj (Wz.heap.size + 1) o).heap[Wz.heap.size]? = some (.deferred (some [])) := fun W o h => (World.putObj_heap_other (by omega)).trans h
  have put_I : ∀ pre (W : World) (o : Obj), I pre W → I pre (W.putObj (Wz.heap.size + 1) o) := fun pre W o h => hI pre W _ h (Tch.put W _ o (.inl (by omega)))
  have put_X : ∀ (W : World) (o : Obj), Ix W → Ix (W.putObj (Wz.heap.size + 1) o) := fun W o h => hX W _ h (Tch.put W _ o (.inl (by omega)))
  refine ⟨Wz.heap.size + 1, [{ target := .collected Wz.heap.size, args := #[] }], W1, { target := .fn (.func gf) lb, args := pb ++ #[.func (.yield (Wz.heap.size + 1)) #[] #[]] }, W1, gf, pb ++ #[.func (.yield (Wz.heap.size + 1)) #[] #[]] ++ lb, W1, ?_, ?_, fun _ _ => trivial, ?_, fun _ => h1, ?_⟩
  · exact run_enterLoop_outer fn a.tmps ps assign body
  · simp only [resolve, hg]
    simp [go_sem]
  · simp [invoke, go_sem, eg]
  refine (callsIn_wide.2 (hseq (Wz.heap.size + 1) (Wz.heap.size + 2) (fun pre W => I pre W ∧ W.heap[Wz.heap.size + 1]? = some (.loop (rc .ready none)) ∧ W.heap[Wz.heap.size]? = some (.deferred (some [])))
    (fun _ W => Ix W ∧ W.heap[Wz.heap.size + 1]? = some (.loop (rc .done (some .ret))) ∧ W.heap[Wz.heap.size]? = some (.deferred (some [])))
    (fun pre W h => hIZ pre W h.1)
    (fun pre W W' h hb' => ⟨hI _ _ _ h.1 (hb'.mono (by omega)), (hb'.block _ (by omega) (by omega)).trans h.2.1, (hb'.block _ (by omega) (by omega)).trans h.2.2⟩)
    (fun _ W W' h hb' => ⟨hX _ _ h.1 (hb'.mono (by omega)), (hb'.block _ (by omega) (by omega)).trans h.2.1, (hb'.block _ (by omega) (by omega)).trans h.2.2⟩)
    ?_ W1 (by omega) (by omega) (by omega) (fun j _ hj => Below.block hB1 j (by omega)) ⟨hI _ _ _ h0 (Tch.of_bel hB1 (Nat.le_refl _)), hl1, hd1⟩)).mono ?_
  · rintro pre x W ⟨hi, hl, hd⟩ hx
    have hlt : Wz.heap.size + 1 < W.heap.size := (Array.getElem?_eq_some_iff.1 hl).1
    refine ⟨fn, _, assign, body, run_yield hl (hps x), roundIn_any (m := m - 1 - 1) (roundIn_of_wpIn trivial (hassign _ x W _ ⟨_, run_beginRound hl rfl, ?_⟩))⟩
    have hl2 : (W.putObj (Wz.heap.size + 1) (.loop { rc .ready none with state := .busy })).heap[Wz.heap.size + 1]? = some (.loop { rc .ready none with state := .busy }) := World.putObj_heap_same hlt
    have hd2 := put_d W (.loop { rc .ready none with state := .busy }) hd
    have hk2 : Kep b0 b1 (Wz.heap.size + 2) W (W.putObj (Wz.heap.size + 1) (.loop { rc .ready none with state := .busy })) := Kep.put W _ _ (by omega) (by omega)
    refine wpIn_mono (hbody _ pre x _ (by omega) ⟨_, hl2⟩ (put_I _ _ _ hi) hx) ?_
    rintro e a3 W3 hp
    cases e with
    | normal =>
      obtain ⟨hk, hi3⟩ := hp
      have hl3 := (hk.block _ (Array.getElem?_eq_some_iff.1 hl2).1 (by omega)).trans hl2
      have hd3 := (hk.block _ (Array.getElem?_eq_some_iff.1 hd2).1 (by omega)).trans hd2
      have hlt3 : Wz.heap.size + 1 < W3.heap.size := (Array.getElem?_eq_some_iff.1 hl3).1
      exact ⟨_, _, run_endRound none hl3, .inl ⟨rfl, put_I _ _ _ hi3, World.putObj_heap_same hlt3, put_d _ _ hd3⟩, (hk2.trans (hk.mono (by omega))).trans (Kep.put _ _ _ (by omega) (by omega))⟩
    | ret =>
      obtain ⟨hk, hx3⟩ := hp
      have hl3 := (hk.block _ (Array.getElem?_eq_some_iff.1 hl2).1 (by omega)).trans hl2
      have hd3 := (hk.block _ (Array.getElem?_eq_some_iff.1 hd2).1 (by omega)).trans hd2
      exact ⟨_, _, run_endRound (some .ret) hl3, .inr ⟨rfl, put_X _ _ hx3, World.putObj_heap_same (Array.getElem?_eq_some_iff.1 hl3).1, put_d _ _ hd3⟩, (hk2.trans (hk.mono (by omega))).trans (Kep.put _ _ _ (by omega) (by omega))⟩
    | exit id => exact hp.elim
    | goto t => exact hp.elim
    | panic ch => exact hp.elim
    | outgrown => exact hp.elim
  · rintro e W2 ⟨⟨v, rfl⟩, (⟨hi, hl, hd⟩ | ⟨pre, hi, hl, hd⟩)⟩
    · exact ⟨none, _, run_endLoop hl (by simp [rc]), hdone _ (put_I _ _ _ hi) (put_d _ _ hd)⟩
    · exact ⟨some .ret, _, run_endLoop hl (by simp [rc]), hstop _ (put_X _ _ hi) (put_d _ _ hd)⟩

/-- .. within a round of loop l₀. -/
theorem range_in {l₀ : Nat} {r₀ : Loop} (hl₀ : Wz.heap[l₀]? = some (.loop r₀)) (h1 : 1 ≤ m) (hb : b1 ≤ Wz.heap.size) (hg : a.eval g = .func (.func gf) pb lb) (eg : ∀ args w, (callFunc gf args).run P w = .ok (.enter gf args) w) (hps : ∀ x, (encs x).size = ps.size)
    (hseq : Seq P encs tb b0 b1 gf pb lb Z Wz) (I : List α → World → Prop) (Ix : World → Prop) (hIZ : ∀ pre W, I pre W → Z W)
    (hI : ∀ pre W W', I pre W → Tch b0 b1 Wz.heap.size W W' → I pre W') (hX : ∀ W W', Ix W → Tch b0 b1 Wz.heap.size W W' → Ix W') (h0 : I [] Wz) (a₁ : α → Act)
    (hassign : ∀ (l : Nat) (x : α) (W : World) (K : Act → World → Prop), K (a₁ x) W →
      assign.wpIn (Fence.wide.inRound l) (m - 1 - 1) P (Exit.then K (fun _ _ _ => False)) { tmps := (ps.zip (encs x)).foldl (fun t (p, v) => t.setIfInBounds p v) a.tmps, defers := [] } W)
    (hbody : ∀ (l : Nat) (pre : List α) (x : α) (W : World), Wz.heap.size ≤ l → (∃ r, W.heap[l]? = some (.loop r)) → I pre W → (∃ rest, tb = pre ++ x :: rest) →
      body.wpIn (Fence.wide.inRound l) (m - 1 - 1) P (endsB b0 b1 Wz.heap.size I Ix (pre ++ [x]) W) (a₁ x) W)
    (hdone : ∀ W, I tb W → Q .normal a W)
    (hstop : ∀ W, Ix W → Code.ret.wpIn (Fence.wide.inRound l₀) m P Q a W) :
    (Code.rangeFunc g ps assign body).wpIn (Fence.wide.inRound l₀) m P Q a Wz := by
  refine wpIn_rangeFunc fun fn _ => ?_
  let rc : LoopState → Option Code → Loop := fun st pe => { state := st, pending := pe, fn, tmps := a.tmps, params := ps, assign, body, defers := r₀.defers }
  let W1 : World := Wz.alloc (.loop (rc .ready none))
  have hsz1 : W1.heap.size = Wz.heap.size + 1 := World.size_alloc _ _
  have hB1 : Bel Wz W1 := (Bel.refl Wz).alloc _
  have hl1 : W1.heap[Wz.heap.size]? = some (.loop (rc .ready none)) := World.alloc_heap_new Wz (.loop (rc .ready none))
  have put_I : ∀ pre (W : World) (o : Obj), I pre W → I pre (W.putObj Wz.heap.size o) := fun pre W o h => hI pre W _ h (Tch.put W _ o (.inl (by omega)))
  have put_X : ∀ (W : World) (o : Obj), Ix W → Ix (W.putObj Wz.heap.size o) := fun W o h => hX W _ h (Tch.put W _ o (.inl (by omega)))
  refine ⟨Wz.heap.size, [], W1, { target := .fn (.func gf) lb, args := pb ++ #[.func (.yield Wz.heap.size) #[] #[]] }, W1, gf, pb ++ #[.func (.yield Wz.heap.size) #[] #[]] ++ lb, W1, ?_, ?_, fun _ _ => trivial, ?_, fun _ => h1, ?_⟩
  · exact run_enterLoop_inner hl₀ fn a.tmps ps assign body
  · simp only [resolve, hg]
    simp [go_sem]
  · simp [invoke, go_sem, eg]
  refine (CallsIn.inRound l₀ (callsIn_wide.2 (hseq Wz.heap.size (Wz.heap.size + 1) (fun pre W => I pre W ∧ W.heap[Wz.heap.size]? = some (.loop (rc .ready none)))
    (fun _ W => Ix W ∧ W.heap[Wz.heap.size]? = some (.loop (rc .done (some .ret))))
    (fun pre W h => hIZ pre W h.1)
    (fun pre W W' h hb' => ⟨hI _ _ _ h.1 (hb'.mono (by omega)), (hb'.block _ (by omega) (by omega)).trans h.2⟩)
    (fun _ W W' h hb' => ⟨hX _ _ h.1 (hb'.mono (by omega)), (hb'.block _ (by omega) (by omega)).trans h.2⟩)
    ?_ W1 (by omega) (by omega) (by omega) (fun j _ hj => Below.block hB1 j (by omega)) ⟨hI _ _ _ h0 (Tch.of_bel hB1 (Nat.le_refl _)), hl1⟩))).mono ?_
  · rintro pre x W ⟨hi, hl⟩ hx
    have hlt : Wz.heap.size < W.heap.size := (Array.getElem?_eq_some_iff.1 hl).1
    refine ⟨fn, _, assign, body, run_yield hl (hps x), roundIn_any (m := m - 1 - 1) (roundIn_of_wpIn trivial (hassign _ x W _ ⟨_, run_beginRound hl rfl, ?_⟩))⟩
    have hl2 : (W.putObj Wz.heap.size (.loop { rc .ready none with state := .busy })).heap[Wz.heap.size]? = some (.loop { rc .ready none with state := .busy }) := World.putObj_heap_same hlt
    have hk2 : Kep b0 b1 (Wz.heap.size + 1) W (W.putObj Wz.heap.size (.loop { rc .ready none with state := .busy })) := Kep.put W _ _ (by omega) (by omega)
    refine wpIn_mono (hbody _ pre x _ (by omega) ⟨_, hl2⟩ (put_I _ _ _ hi) hx) ?_
    rintro e a3 W3 hp
    cases e with
    | normal =>
      obtain ⟨hk, hi3⟩ := hp
      have hl3 := (hk.block _ (Array.getElem?_eq_some_iff.1 hl2).1 (by omega)).trans hl2
      have hlt3 : Wz.heap.size < W3.heap.size := (Array.getElem?_eq_some_iff.1 hl3).1
      exact ⟨_, _, run_endRound none hl3, .inl ⟨rfl, put_I _ _ _ hi3, World.putObj_heap_same hlt3⟩, (hk2.trans (hk.mono (by omega))).trans (Kep.put _ _ _ (by omega) (by omega))⟩
    | ret =>
      obtain ⟨hk, hx3⟩ := hp
      have hl3 := (hk.block _ (Array.getElem?_eq_some_iff.1 hl2).1 (by omega)).trans hl2
      exact ⟨_, _, run_endRound (some .ret) hl3, .inr ⟨rfl, put_X _ _ hx3, World.putObj_heap_same (Array.getElem?_eq_some_iff.1 hl3).1⟩, (hk2.trans (hk.mono (by omega))).trans (Kep.put _ _ _ (by omega) (by omega))⟩
    | exit id => exact hp.elim
    | goto t => exact hp.elim
    | panic ch => exact hp.elim
    | outgrown => exact hp.elim
  · rintro e W2 ⟨⟨v, rfl⟩, (⟨hi, hl⟩ | ⟨pre, hi, hl⟩)⟩
    · exact ⟨none, _, run_endLoop hl (by simp [rc]), hdone _ (put_I _ _ _ hi)⟩
    · exact ⟨some .ret, _, run_endLoop hl (by simp [rc]), hstop _ (put_X _ _ hi)⟩
end
end Go.Proofs.YtipigfgnpfhdbaaGreatDoor.U
namespace Go.Proofs.YtipigfgnpfhdbaaGreatDoor.U
open Go.RowKit
set_option linter.unusedVariables false
set_option maxRecDepth 1000000

/-- The constant strings that a body's operations assign, bind or hand on, in their order. -/
def cst : Operand → List ByteArray
  | .const (.string s) => [s]
  | _ => []
def strOf : Op → List ByteArray
  | .assign x => cst x
  | .makeFunc _ args _ => args.toList.flatMap cst
  | .call c => c.args.toList.flatMap cst
  | _ => []
def strs : Code → List ByteArray
  | .seq a b => strs a ++ strs b
  | .region _ ops _ => ops.toList.flatMap fun o => strOf o.op
  | .block _ c => strs c
  | .cond _ a b => strs a ++ strs b
  | .rangeFunc _ _ a b => strs a ++ strs b
  | _ => []
noncomputable def strAt (f : Func) (i : Nat) : ByteArray := match f.body with
  | some c => (strs c).getD i ByteArray.empty
  | none => ByteArray.empty
/-- The places in the Go text that a body's operations bear, in their order. -/
def poss : Code → List String
  | .seq a b => poss a ++ poss b
  | .region _ ops _ => ops.toList.map (·.pos)
  | .block _ c => poss c
  | .cond _ a b => poss a ++ poss b
  | .rangeFunc _ _ a b => poss a ++ poss b
  | _ => []
noncomputable def posAt (f : Func) (i : Nat) : String := match f.body with
  | some c => (poss c).getD i ""
  | none => ""
def codeA (S : Nat → ByteArray) (p : Nat → String) : Code := ((Code.region 0 #[Oper.mk (some 1) (Op.box 3 (Operand.tmp 0)) 0 (p 0) #[] none, Oper.mk (some 2) (Op.alloc 21) 0 (p 1) #[] none, Oper.mk (some 3) (Op.alloc 4) 0 (p 2) #[] none] false).seq (((Code.region 1 #[Oper.mk (some 6) (Op.load 3 (Operand.tmp 1)) 3 (p 3) #[] none, Oper.mk (some 7) (Op.call (Call.mk (Callee.value (Operand.func 93)) #[Operand.const (Value.string (S 0)), Operand.tmp 6] #[118, 3])) 118 (p 4) #[Edge.mk 0 Ground.data] none, Oper.mk (some 8) (Op.makeFunc (Fn.func 94) #[Operand.tmp 7] #[]) 89 (p 5) #[Edge.mk 1 Ground.data] none] false).seq (Code.block 0 (Code.rangeFunc (Operand.tmp 8) #[9, 10] ((Code.region 2 #[Oper.mk (some 4) (Op.assign (Operand.tmp 9)) 3 (p 6) #[] none] false).seq (Code.region 3 #[Oper.mk (some 5) (Op.assign (Operand.tmp 10)) 21 (p 7) #[] none] false)) (Code.block 1 ((Code.region 4 #[Oper.mk (some 11) (Op.move (Operand.tmp 4)) 3 (p 8) #[] none, Oper.mk (some 12) (Op.load 3 (Operand.tmp 1)) 3 (p 9) #[] none, Oper.mk (some 13) (Op.binOp BinOp.eql 3 (Operand.tmp 11) (Operand.tmp 12) 3) 4 (p 10) #[Edge.mk 0 Ground.data, Edge.mk 1 Ground.data] none] false).seq (Code.cond (Operand.tmp 13) ((Code.region 5 #[Oper.mk (some 14) (Op.move (Operand.tmp 5)) 21 (p 11) #[] none, Oper.mk none (Op.store 21 (Operand.tmp 2) (Operand.tmp 14)) 0 (p 12) #[Edge.mk 0 Ground.data, Edge.mk 0 Ground.phase] none, Oper.mk none (Op.store 4 (Operand.tmp 3) (Operand.const (Value.bool true))) 0 (p 13) #[Edge.mk 1 Ground.chain, Edge.mk 0 Ground.phase, Edge.mk 1 Ground.phase] none] false).seq Code.ret) Code.skip)))))).seq ((Code.region 6 #[Oper.mk none (Op.store 21 (Operand.tmp 2) (Operand.const (Value.int IntKind.i32 0))) 0 (p 14) #[] none, Oper.mk none (Op.store 4 (Operand.tmp 3) (Operand.const (Value.bool false))) 0 (p 15) #[Edge.mk 0 Ground.chain, Edge.mk 0 Ground.phase] none] false).seq Code.ret)))
theorem bodyA : Tryz.f56.body = some (codeA (strAt Tryz.f56) (posAt Tryz.f56)) := by kernel_rfl
def codeL (S : Nat → ByteArray) (p : Nat → String) : Code := ((Code.region 0 #[Oper.mk (some 2) (Op.assign (Operand.const (Value.string (S 0)))) 118 (p 0) #[] none] false).seq (((Code.region 1 #[Oper.mk (some 3) (Op.move (Operand.tmp 0)) 3 (p 1) #[] none] false).seq (Code.block 0 ((Code.region 2 #[Oper.mk (some 5) (Op.binOp BinOp.eql 3 (Operand.tmp 3) (Operand.const (Value.int IntKind.i64 3)) 3) 4 (p 2) #[] none, Oper.mk (some 4) (Op.assign (Operand.tmp 5)) 4 (p 3) #[Edge.mk 0 Ground.data] none] false).seq (Code.cond (Operand.tmp 4) ((Code.region 3 #[Oper.mk (some 2) (Op.assign (Operand.const (Value.string (S 1)))) 118 (p 4) #[] none] false).seq Code.ret) ((Code.region 4 #[Oper.mk (some 7) (Op.binOp BinOp.eql 3 (Operand.tmp 3) (Operand.const (Value.int IntKind.i64 4)) 3) 4 (p 5) #[] none, Oper.mk (some 6) (Op.assign (Operand.tmp 7)) 4 (p 6) #[Edge.mk 0 Ground.data] none] false).seq (Code.cond (Operand.tmp 6) ((Code.region 5 #[Oper.mk (some 2) (Op.assign (Operand.const (Value.string (S 2)))) 118 (p 7) #[] none] false).seq Code.ret) ((Code.region 6 #[Oper.mk (some 9) (Op.binOp BinOp.eql 3 (Operand.tmp 3) (Operand.const (Value.int IntKind.i64 5)) 3) 4 (p 8) #[] none, Oper.mk (some 8) (Op.assign (Operand.tmp 9)) 4 (p 9) #[Edge.mk 0 Ground.data] none] false).seq (Code.cond (Operand.tmp 8) ((Code.region 7 #[Oper.mk (some 2) (Op.assign (Operand.const (Value.string (S 3)))) 118 (p 10) #[] none] false).seq Code.ret) ((Code.region 8 #[Oper.mk (some 11) (Op.binOp BinOp.eql 3 (Operand.tmp 3) (Operand.const (Value.int IntKind.i64 6)) 3) 4 (p 11) #[] none, Oper.mk (some 10) (Op.assign (Operand.tmp 11)) 4 (p 12) #[Edge.mk 0 Ground.data] none] false).seq (Code.cond (Operand.tmp 10) ((Code.region 9 #[Oper.mk (some 2) (Op.assign (Operand.const (Value.string (S 4)))) 118 (p 13) #[] none] false).seq Code.ret) ((Code.region 10 #[Oper.mk (some 13) (Op.binOp BinOp.eql 3 (Operand.tmp 3) (Operand.const (Value.int IntKind.i64 7)) 3) 4 (p 14) #[] none, Oper.mk (some 12) (Op.assign (Operand.tmp 13)) 4 (p 15) #[Edge.mk 0 Ground.data] none] false).seq (Code.cond (Operand.tmp 12) ((Code.region 11 #[Oper.mk (some 2) (Op.assign (Operand.const (Value.string (S 5)))) 118 (p 16) #[] none] false).seq Code.ret) ((Code.region 12 #[Oper.mk (some 15) (Op.binOp BinOp.eql 3 (Operand.tmp 3) (Operand.const (Value.int IntKind.i64 8)) 3) 4 (p 17) #[] none, Oper.mk (some 14) (Op.assign (Operand.tmp 15)) 4 (p 18) #[Edge.mk 0 Ground.data] none] false).seq (Code.cond (Operand.tmp 14) ((Code.region 13 #[Oper.mk (some 2) (Op.assign (Operand.const (Value.string (S 6)))) 118 (p 19) #[] none] false).seq Code.ret) Code.skip)))))))))))))).seq ((Code.region 14 #[Oper.mk (some 2) (Op.assign (Operand.const (Value.string (S 7)))) 118 (p 20) #[] none] false).seq Code.ret)))
theorem bodyL : Tryz.f99.body = some (codeL (strAt Tryz.f99) (posAt Tryz.f99)) := by kernel_rfl

def nm (x : List UInt8) : List Int := x.map fun c => Int.ofNat c.toNat
theorem size_of (l : List UInt8) : (⟨l.toArray⟩ : ByteArray).size = l.length := by simp [ByteArray.size]
theorem str_nm (x : List UInt8) : str (nm x) = ⟨x.toArray⟩ := str_sn ⟨x.toArray⟩
/-- What a word tells. -/
def chr (x : List UInt8) : Int := if (Lib.decodeGo ⟨x.toArray⟩).2 = x.length then ((Lib.decodeGo ⟨x.toArray⟩).1 : Int) else num (nm x)
/-- What words tell, from the number n on. -/
def outW (n : Int) : List (List UInt8) → List (Int × Int)
  | [] => []
  | x :: xs => (if x = [45] then [] else [(n, chr x)]) ++ outW (n + 1) xs
def okW (x : List UInt8) : Bool := decide (1 ≤ x.length) && decide (x.length ≤ 4) && (((Lib.decodeGo ⟨x.toArray⟩).2 == x.length) || ((nm x).all isD && decide (num (nm x) < 65536)))
/-- The pieces of a text between bytes c. -/
def splB (c : UInt8) : List UInt8 → List (List UInt8) → Bool
  | _, [] => false
  | s, [p] => Lib.indexByte s c == -1 && s == p
  | s, p :: q :: r => Lib.indexByte s c == (p.length : Int) && s.take p.length == p && splB c (s.drop (p.length + 1)) (q :: r)
/-- What stands at a place: its character, how many bytes it has, and whether it is white. -/
def stp (s : List UInt8) (i : Nat) : Int × Nat × Bool :=
  if (s.getD i 0).toNat < 128 then (((s.getD i 0).toNat : Int), 1, Lib.isSp (s.getD i 0))
  else (((Lib.decodeGo ⟨(s.drop i).toArray⟩).1 : Int), (Lib.decodeGo ⟨(s.drop i).toArray⟩).2, Lib.isSpaceZ ((Lib.decodeGo ⟨(s.drop i).toArray⟩).1 : Int))
/-- The words of a text from the place i on, of which one began at st (none: below 0). -/
def fsr (s : List UInt8) : Nat → Int → Nat → Option (List (List UInt8))
  | 0, _, _ => none
  | k + 1, st, i =>
    if i < s.length then
      if (1 ≤ (stp s i).2.1 ∧ i + (stp s i).2.1 ≤ s.length) ∧ st ≤ i ∧ (stp s i).1 ≤ 1114111 then
        if (stp s i).2.2 = true then
          if 0 ≤ st then (fsr s k (-1) (i + (stp s i).2.1)).map (((s.take i).drop st.toNat) :: ·) else fsr s k (-1) (i + (stp s i).2.1)
        else if st < 0 then fsr s k i (i + (stp s i).2.1) else fsr s k st (i + (stp s i).2.1)
      else none
    else if i = s.length ∧ st ≤ i then (if 0 ≤ st then some [s.drop st.toNat] else some []) else none
/-- A line: its bytes, these without what is white around them, the first word, what stands behind it, whether there is such, the number, how many blanks, the words. -/
structure Ln where
  l : List UInt8
  t : List UInt8
  h : List UInt8
  ws : List UInt8
  ok : Bool
  st : Int
  k : Nat
  fs : List (List UInt8)
def okLn (x : Ln) : Bool := decide (x.l.length < 1000) && Lib.trimSpaceD x.l == x.t && decide (x.t.length < 1000) && decide (x.ws.length < 1000) && splB 10 x.l [x.l] && fsr x.ws (x.ws.length + 1) (-1) 0 == some x.fs && x.fs.all okW && decide (x.fs.length < 100) && Lib.countByte x.ws 32 == x.k && decide (0 ≤ x.st) && decide (x.st < 65536) &&
  (match x.ok with
   | true => Lib.cut x.t [32] == (x.h, x.ws, true) && (nm x.h).all isD && decide (1 ≤ x.h.length) && decide (x.h.length ≤ 4) && num (nm x.h) == x.st && decide (x.st + x.k < 256)
   | false => Lib.cut x.t [32] == (x.t, [], false) && x.ws == [] && x.st == 0 && x.fs == [])
def noLn : Ln := ⟨[], [], [], [], false, 0, 0, []⟩
theorem noLn_ok : okLn noLn = true := by kernel_rfl
/-- The line that has a word for n. -/
def lineOf (rs : List Ln) (n : Int) : Ln := (rs.find? fun x => x.ok && decide (x.st ≤ n) && decide (n - x.st ≤ x.k)).getD noLn
/-- A text's lines, and that the one line of a number tells of it what the list tells. -/
structure Good (S : ByteArray) (tb : List (Int × Int)) (rs : List Ln) : Prop where
  spl : splB 10 S.data.toList (rs.map (·.l)) = true
  ok : ∀ x ∈ rs, okLn x = true
  tells : ∀ n, look (outW (lineOf rs n).st (lineOf rs n).fs) n = look tb n
theorem lineOf_ok {rs : List Ln} (h : ∀ x ∈ rs, okLn x = true) (n : Int) : okLn (lineOf rs n) = true := by
  unfold lineOf
  cases e : rs.find? fun x => x.ok && decide (x.st ≤ n) && decide (n - x.st ≤ x.k) with
  | none => exact noLn_ok
  | some x => exact h x (List.mem_of_find?_eq_some e)
theorem okLn_room {x : Ln} (h : okLn x = true) (ho : x.ok = true) : 0 ≤ x.st ∧ x.st + x.k < 256 := by
  unfold okLn at h
  rw [ho] at h
  simp only [Bool.and_eq_true, decide_eq_true_eq] at h
  exact ⟨h.1.1.2, h.2.2⟩
theorem good_of {S : ByteArray} {T : List UInt8} {tb : List (Int × Int)} {rs : List Ln} (h : S.data.toList = T) (hs : splB 10 T (rs.map (·.l)) = true) (ho : rs.all okLn = true) (hz : decide (T.length < 4000) = true)
    (hn : (List.range 256).all (fun i => look (outW (lineOf rs (i : Int)).st (lineOf rs (i : Int)).fs) (i : Int) == look tb (i : Int)) = true) (ht : tb.all (fun p => decide (0 ≤ p.1) && decide (p.1 < 256)) = true) (he : look [] 0 = (0, false)) : Good S tb rs := by
  have hok : ∀ x ∈ rs, okLn x = true := fun x hx => List.all_eq_true.1 ho x hx
  refine ⟨by rw [h]; exact hs, hok, fun n => ?_⟩
  by_cases hr : 0 ≤ n ∧ n < 256
  · have := List.all_eq_true.1 hn n.toNat (by simp; omega)
    have e : ((n.toNat : Nat) : Int) = n := by omega
    rw [e] at this
    exact eq_of_beq this
  · have h1 : lineOf rs n = noLn := by
      unfold lineOf
      rw [List.find?_eq_none.2 (fun x hx => ?_)]
      · rfl
      · intro hc
        simp only [Bool.and_eq_true, decide_eq_true_eq] at hc
        have := okLn_room (hok x hx) hc.1.1
        omega
    have h2 : look tb n = (0, false) := look_miss fun p hp e => by
      have := List.all_eq_true.1 ht p hp
      simp only [Bool.and_eq_true, decide_eq_true_eq] at this
      omega
    rw [h1, h2]
    exact look_miss (fun p hp => by simp [noLn, outW] at hp)

def txtA : List UInt8 := [10, 50, 49, 32, 197, 129, 32, 195, 152, 32, 196, 144, 32, 195, 158, 32, 195, 134, 32, 197, 146, 32, 48, 50, 66, 57, 32, 48, 48, 66, 55, 32, 50, 54, 54, 68, 32, 194, 174, 32, 194, 177, 32, 198, 160, 32, 198, 175, 32, 48, 50, 66, 67, 32, 45, 10, 51, 48, 32, 48, 50, 66, 66, 32, 197, 130, 32, 195, 184, 32, 196, 145, 32, 195, 190, 32, 195, 166, 32, 197, 147, 32, 48, 50, 66, 65, 32, 196, 177, 32, 194, 163, 32, 195, 176, 32, 45, 32, 198, 161, 32, 198, 176, 32, 45, 32, 45, 10, 52, 48, 32, 194, 176, 32, 50, 49, 49, 51, 32, 50, 49, 49, 55, 32, 194, 169, 32, 50, 54, 54, 70, 32, 194, 191, 32, 194, 161, 32, 195, 159, 32, 226, 130, 172, 32, 45, 32, 45, 32, 45, 32, 45, 32, 45, 32, 45, 32, 45, 10, 53, 48, 32, 45, 32, 45, 32, 45, 32, 45, 32, 45, 32, 45, 32, 45, 32, 45, 32, 45, 32, 45, 32, 45, 32, 45, 32, 45, 32, 45, 32, 45, 32, 45, 10, 54, 48, 32, 48, 51, 48, 57, 32, 48, 51, 48, 48, 32, 48, 51, 48, 49, 32, 48, 51, 48, 50, 32, 48, 51, 48, 51, 32, 48, 51, 48, 52, 32, 48, 51, 48, 54, 32, 48, 51, 48, 55, 32, 48, 51, 48, 56, 32, 48, 51, 48, 67, 32, 48, 51, 48, 65, 32, 70, 69, 50, 48, 32, 70, 69, 50, 49, 32, 48, 51, 49, 53, 32, 48, 51, 48, 66, 32, 48, 51, 49, 48, 10, 55, 48, 32, 48, 51, 50, 55, 32, 48, 51, 50, 56, 32, 48, 51, 50, 51, 32, 48, 51, 50, 52, 32, 48, 51, 50, 53, 32, 48, 51, 51, 51, 32, 48, 51, 51, 50, 32, 48, 51, 50, 54, 32, 48, 51, 49, 67, 32, 48, 51, 50, 69, 32, 70, 69, 50, 50, 32, 70, 69, 50, 51, 32, 45, 32, 45, 32, 48, 51, 49, 51, 10]
def recsA : List Ln := [⟨[], [], [], [], false, 0, 0, []⟩,
  ⟨[50, 49, 32, 197, 129, 32, 195, 152, 32, 196, 144, 32, 195, 158, 32, 195, 134, 32, 197, 146, 32, 48, 50, 66, 57, 32, 48, 48, 66, 55, 32, 50, 54, 54, 68, 32, 194, 174, 32, 194, 177, 32, 198, 160, 32, 198, 175, 32, 48, 50, 66, 67, 32, 45], [50, 49, 32, 197, 129, 32, 195, 152, 32, 196, 144, 32, 195, 158, 32, 195, 134, 32, 197, 146, 32, 48, 50, 66, 57, 32, 48, 48, 66, 55, 32, 50, 54, 54, 68, 32, 194, 174, 32, 194, 177, 32, 198, 160, 32, 198, 175, 32, 48, 50, 66, 67, 32, 45], [50, 49], [197, 129, 32, 195, 152, 32, 196, 144, 32, 195, 158, 32, 195, 134, 32, 197, 146, 32, 48, 50, 66, 57, 32, 48, 48, 66, 55, 32, 50, 54, 54, 68, 32, 194, 174, 32, 194, 177, 32, 198, 160, 32, 198, 175, 32, 48, 50, 66, 67, 32, 45], true, 33, 14, [[197, 129], [195, 152], [196, 144], [195, 158], [195, 134], [197, 146], [48, 50, 66, 57], [48, 48, 66, 55], [50, 54, 54, 68], [194, 174], [194, 177], [198, 160], [198, 175], [48, 50, 66, 67], [45]]⟩,
  ⟨[51, 48, 32, 48, 50, 66, 66, 32, 197, 130, 32, 195, 184, 32, 196, 145, 32, 195, 190, 32, 195, 166, 32, 197, 147, 32, 48, 50, 66, 65, 32, 196, 177, 32, 194, 163, 32, 195, 176, 32, 45, 32, 198, 161, 32, 198, 176, 32, 45, 32, 45], [51, 48, 32, 48, 50, 66, 66, 32, 197, 130, 32, 195, 184, 32, 196, 145, 32, 195, 190, 32, 195, 166, 32, 197, 147, 32, 48, 50, 66, 65, 32, 196, 177, 32, 194, 163, 32, 195, 176, 32, 45, 32, 198, 161, 32, 198, 176, 32, 45, 32, 45], [51, 48], [48, 50, 66, 66, 32, 197, 130, 32, 195, 184, 32, 196, 145, 32, 195, 190, 32, 195, 166, 32, 197, 147, 32, 48, 50, 66, 65, 32, 196, 177, 32, 194, 163, 32, 195, 176, 32, 45, 32, 198, 161, 32, 198, 176, 32, 45, 32, 45], true, 48, 15, [[48, 50, 66, 66], [197, 130], [195, 184], [196, 145], [195, 190], [195, 166], [197, 147], [48, 50, 66, 65], [196, 177], [194, 163], [195, 176], [45], [198, 161], [198, 176], [45], [45]]⟩,
  ⟨[52, 48, 32, 194, 176, 32, 50, 49, 49, 51, 32, 50, 49, 49, 55, 32, 194, 169, 32, 50, 54, 54, 70, 32, 194, 191, 32, 194, 161, 32, 195, 159, 32, 226, 130, 172, 32, 45, 32, 45, 32, 45, 32, 45, 32, 45, 32, 45, 32, 45], [52, 48, 32, 194, 176, 32, 50, 49, 49, 51, 32, 50, 49, 49, 55, 32, 194, 169, 32, 50, 54, 54, 70, 32, 194, 191, 32, 194, 161, 32, 195, 159, 32, 226, 130, 172, 32, 45, 32, 45, 32, 45, 32, 45, 32, 45, 32, 45, 32, 45], [52, 48], [194, 176, 32, 50, 49, 49, 51, 32, 50, 49, 49, 55, 32, 194, 169, 32, 50, 54, 54, 70, 32, 194, 191, 32, 194, 161, 32, 195, 159, 32, 226, 130, 172, 32, 45, 32, 45, 32, 45, 32, 45, 32, 45, 32, 45, 32, 45], true, 64, 15, [[194, 176], [50, 49, 49, 51], [50, 49, 49, 55], [194, 169], [50, 54, 54, 70], [194, 191], [194, 161], [195, 159], [226, 130, 172], [45], [45], [45], [45], [45], [45], [45]]⟩,
  ⟨[53, 48, 32, 45, 32, 45, 32, 45, 32, 45, 32, 45, 32, 45, 32, 45, 32, 45, 32, 45, 32, 45, 32, 45, 32, 45, 32, 45, 32, 45, 32, 45, 32, 45], [53, 48, 32, 45, 32, 45, 32, 45, 32, 45, 32, 45, 32, 45, 32, 45, 32, 45, 32, 45, 32, 45, 32, 45, 32, 45, 32, 45, 32, 45, 32, 45, 32, 45], [53, 48], [45, 32, 45, 32, 45, 32, 45, 32, 45, 32, 45, 32, 45, 32, 45, 32, 45, 32, 45, 32, 45, 32, 45, 32, 45, 32, 45, 32, 45, 32, 45], true, 80, 15, [[45], [45], [45], [45], [45], [45], [45], [45], [45], [45], [45], [45], [45], [45], [45], [45]]⟩,
  ⟨[54, 48, 32, 48, 51, 48, 57, 32, 48, 51, 48, 48, 32, 48, 51, 48, 49, 32, 48, 51, 48, 50, 32, 48, 51, 48, 51, 32, 48, 51, 48, 52, 32, 48, 51, 48, 54, 32, 48, 51, 48, 55, 32, 48, 51, 48, 56, 32, 48, 51, 48, 67, 32, 48, 51, 48, 65, 32, 70, 69, 50, 48, 32, 70, 69, 50, 49, 32, 48, 51, 49, 53, 32, 48, 51, 48, 66, 32, 48, 51, 49, 48], [54, 48, 32, 48, 51, 48, 57, 32, 48, 51, 48, 48, 32, 48, 51, 48, 49, 32, 48, 51, 48, 50, 32, 48, 51, 48, 51, 32, 48, 51, 48, 52, 32, 48, 51, 48, 54, 32, 48, 51, 48, 55, 32, 48, 51, 48, 56, 32, 48, 51, 48, 67, 32, 48, 51, 48, 65, 32, 70, 69, 50, 48, 32, 70, 69, 50, 49, 32, 48, 51, 49, 53, 32, 48, 51, 48, 66, 32, 48, 51, 49, 48], [54, 48], [48, 51, 48, 57, 32, 48, 51, 48, 48, 32, 48, 51, 48, 49, 32, 48, 51, 48, 50, 32, 48, 51, 48, 51, 32, 48, 51, 48, 52, 32, 48, 51, 48, 54, 32, 48, 51, 48, 55, 32, 48, 51, 48, 56, 32, 48, 51, 48, 67, 32, 48, 51, 48, 65, 32, 70, 69, 50, 48, 32, 70, 69, 50, 49, 32, 48, 51, 49, 53, 32, 48, 51, 48, 66, 32, 48, 51, 49, 48], true, 96, 15, [[48, 51, 48, 57], [48, 51, 48, 48], [48, 51, 48, 49], [48, 51, 48, 50], [48, 51, 48, 51], [48, 51, 48, 52], [48, 51, 48, 54], [48, 51, 48, 55], [48, 51, 48, 56], [48, 51, 48, 67], [48, 51, 48, 65], [70, 69, 50, 48], [70, 69, 50, 49], [48, 51, 49, 53], [48, 51, 48, 66], [48, 51, 49, 48]]⟩,
  ⟨[55, 48, 32, 48, 51, 50, 55, 32, 48, 51, 50, 56, 32, 48, 51, 50, 51, 32, 48, 51, 50, 52, 32, 48, 51, 50, 53, 32, 48, 51, 51, 51, 32, 48, 51, 51, 50, 32, 48, 51, 50, 54, 32, 48, 51, 49, 67, 32, 48, 51, 50, 69, 32, 70, 69, 50, 50, 32, 70, 69, 50, 51, 32, 45, 32, 45, 32, 48, 51, 49, 51], [55, 48, 32, 48, 51, 50, 55, 32, 48, 51, 50, 56, 32, 48, 51, 50, 51, 32, 48, 51, 50, 52, 32, 48, 51, 50, 53, 32, 48, 51, 51, 51, 32, 48, 51, 51, 50, 32, 48, 51, 50, 54, 32, 48, 51, 49, 67, 32, 48, 51, 50, 69, 32, 70, 69, 50, 50, 32, 70, 69, 50, 51, 32, 45, 32, 45, 32, 48, 51, 49, 51], [55, 48], [48, 51, 50, 55, 32, 48, 51, 50, 56, 32, 48, 51, 50, 51, 32, 48, 51, 50, 52, 32, 48, 51, 50, 53, 32, 48, 51, 51, 51, 32, 48, 51, 51, 50, 32, 48, 51, 50, 54, 32, 48, 51, 49, 67, 32, 48, 51, 50, 69, 32, 70, 69, 50, 50, 32, 70, 69, 50, 51, 32, 45, 32, 45, 32, 48, 51, 49, 51], true, 112, 14, [[48, 51, 50, 55], [48, 51, 50, 56], [48, 51, 50, 51], [48, 51, 50, 52], [48, 51, 50, 53], [48, 51, 51, 51], [48, 51, 51, 50], [48, 51, 50, 54], [48, 51, 49, 67], [48, 51, 50, 69], [70, 69, 50, 50], [70, 69, 50, 51], [45], [45], [48, 51, 49, 51]]⟩,
  ⟨[], [], [], [], false, 0, 0, []⟩]
noncomputable def SA : ByteArray := strAt Tryz.f56 0
theorem goodA : Good SA tabA recsA := good_of (T := txtA) (by kernel_rfl) (by kernel_rfl) (by kernel_rfl) (by kernel_rfl) (by kernel_rfl) (by kernel_rfl) (by kernel_rfl)
def txt3 : List UInt8 := [10, 50, 49, 32, 48, 51, 48, 48, 32, 48, 51, 48, 49, 32, 48, 51, 48, 56, 32, 48, 51, 52, 50, 32, 48, 51, 49, 51, 32, 48, 51, 49, 52, 32, 48, 51, 52, 53, 32, 45, 32, 45, 32, 45, 32, 45, 32, 45, 32, 45, 32, 45, 32, 45, 10, 51, 48, 32, 48, 48, 65, 66, 32, 48, 48, 66, 66, 32, 50, 48, 49, 67, 32, 50, 48, 49, 68, 32, 48, 51, 55, 52, 32, 48, 51, 55, 53, 32, 45, 32, 45, 32, 45, 32, 45, 32, 45, 32, 48, 51, 56, 55, 32, 45, 32, 45, 32, 45, 32, 48, 51, 55, 69, 10, 52, 48, 32, 45, 32, 206, 145, 32, 206, 146, 32, 45, 32, 206, 147, 32, 206, 148, 32, 206, 149, 32, 48, 51, 68, 65, 32, 48, 51, 68, 67, 32, 206, 150, 32, 206, 151, 32, 206, 152, 32, 206, 153, 32, 206, 154, 32, 206, 155, 32, 206, 156, 10, 53, 48, 32, 206, 157, 32, 206, 158, 32, 206, 159, 32, 206, 160, 32, 48, 51, 68, 69, 32, 206, 161, 32, 206, 163, 32, 45, 32, 206, 164, 32, 206, 165, 32, 206, 166, 32, 206, 167, 32, 206, 168, 32, 206, 169, 32, 48, 51, 69, 48, 32, 45, 10, 54, 48, 32, 45, 32, 206, 177, 32, 206, 178, 32, 48, 51, 68, 48, 32, 206, 179, 32, 206, 180, 32, 206, 181, 32, 48, 51, 68, 66, 32, 48, 51, 68, 68, 32, 206, 182, 32, 206, 183, 32, 206, 184, 32, 206, 185, 32, 206, 186, 32, 206, 187, 32, 206, 188, 10, 55, 48, 32, 206, 189, 32, 206, 190, 32, 206, 191, 32, 207, 128, 32, 48, 51, 68, 70, 32, 207, 129, 32, 207, 131, 32, 207, 130, 32, 207, 132, 32, 207, 133, 32, 207, 134, 32, 207, 135, 32, 207, 136, 32, 207, 137, 32, 48, 51, 69, 49, 10]
def recs3 : List Ln := [⟨[], [], [], [], false, 0, 0, []⟩,
  ⟨[50, 49, 32, 48, 51, 48, 48, 32, 48, 51, 48, 49, 32, 48, 51, 48, 56, 32, 48, 51, 52, 50, 32, 48, 51, 49, 51, 32, 48, 51, 49, 52, 32, 48, 51, 52, 53, 32, 45, 32, 45, 32, 45, 32, 45, 32, 45, 32, 45, 32, 45, 32, 45], [50, 49, 32, 48, 51, 48, 48, 32, 48, 51, 48, 49, 32, 48, 51, 48, 56, 32, 48, 51, 52, 50, 32, 48, 51, 49, 51, 32, 48, 51, 49, 52, 32, 48, 51, 52, 53, 32, 45, 32, 45, 32, 45, 32, 45, 32, 45, 32, 45, 32, 45, 32, 45], [50, 49], [48, 51, 48, 48, 32, 48, 51, 48, 49, 32, 48, 51, 48, 56, 32, 48, 51, 52, 50, 32, 48, 51, 49, 51, 32, 48, 51, 49, 52, 32, 48, 51, 52, 53, 32, 45, 32, 45, 32, 45, 32, 45, 32, 45, 32, 45, 32, 45, 32, 45], true, 33, 14, [[48, 51, 48, 48], [48, 51, 48, 49], [48, 51, 48, 56], [48, 51, 52, 50], [48, 51, 49, 51], [48, 51, 49, 52], [48, 51, 52, 53], [45], [45], [45], [45], [45], [45], [45], [45]]⟩,
  ⟨[51, 48, 32, 48, 48, 65, 66, 32, 48, 48, 66, 66, 32, 50, 48, 49, 67, 32, 50, 48, 49, 68, 32, 48, 51, 55, 52, 32, 48, 51, 55, 53, 32, 45, 32, 45, 32, 45, 32, 45, 32, 45, 32, 48, 51, 56, 55, 32, 45, 32, 45, 32, 45, 32, 48, 51, 55, 69], [51, 48, 32, 48, 48, 65, 66, 32, 48, 48, 66, 66, 32, 50, 48, 49, 67, 32, 50, 48, 49, 68, 32, 48, 51, 55, 52, 32, 48, 51, 55, 53, 32, 45, 32, 45, 32, 45, 32, 45, 32, 45, 32, 48, 51, 56, 55, 32, 45, 32, 45, 32, 45, 32, 48, 51, 55, 69], [51, 48], [48, 48, 65, 66, 32, 48, 48, 66, 66, 32, 50, 48, 49, 67, 32, 50, 48, 49, 68, 32, 48, 51, 55, 52, 32, 48, 51, 55, 53, 32, 45, 32, 45, 32, 45, 32, 45, 32, 45, 32, 48, 51, 56, 55, 32, 45, 32, 45, 32, 45, 32, 48, 51, 55, 69], true, 48, 15, [[48, 48, 65, 66], [48, 48, 66, 66], [50, 48, 49, 67], [50, 48, 49, 68], [48, 51, 55, 52], [48, 51, 55, 53], [45], [45], [45], [45], [45], [48, 51, 56, 55], [45], [45], [45], [48, 51, 55, 69]]⟩,
  ⟨[52, 48, 32, 45, 32, 206, 145, 32, 206, 146, 32, 45, 32, 206, 147, 32, 206, 148, 32, 206, 149, 32, 48, 51, 68, 65, 32, 48, 51, 68, 67, 32, 206, 150, 32, 206, 151, 32, 206, 152, 32, 206, 153, 32, 206, 154, 32, 206, 155, 32, 206, 156], [52, 48, 32, 45, 32, 206, 145, 32, 206, 146, 32, 45, 32, 206, 147, 32, 206, 148, 32, 206, 149, 32, 48, 51, 68, 65, 32, 48, 51, 68, 67, 32, 206, 150, 32, 206, 151, 32, 206, 152, 32, 206, 153, 32, 206, 154, 32, 206, 155, 32, 206, 156], [52, 48], [45, 32, 206, 145, 32, 206, 146, 32, 45, 32, 206, 147, 32, 206, 148, 32, 206, 149, 32, 48, 51, 68, 65, 32, 48, 51, 68, 67, 32, 206, 150, 32, 206, 151, 32, 206, 152, 32, 206, 153, 32, 206, 154, 32, 206, 155, 32, 206, 156], true, 64, 15, [[45], [206, 145], [206, 146], [45], [206, 147], [206, 148], [206, 149], [48, 51, 68, 65], [48, 51, 68, 67], [206, 150], [206, 151], [206, 152], [206, 153], [206, 154], [206, 155], [206, 156]]⟩,
  ⟨[53, 48, 32, 206, 157, 32, 206, 158, 32, 206, 159, 32, 206, 160, 32, 48, 51, 68, 69, 32, 206, 161, 32, 206, 163, 32, 45, 32, 206, 164, 32, 206, 165, 32, 206, 166, 32, 206, 167, 32, 206, 168, 32, 206, 169, 32, 48, 51, 69, 48, 32, 45], [53, 48, 32, 206, 157, 32, 206, 158, 32, 206, 159, 32, 206, 160, 32, 48, 51, 68, 69, 32, 206, 161, 32, 206, 163, 32, 45, 32, 206, 164, 32, 206, 165, 32, 206, 166, 32, 206, 167, 32, 206, 168, 32, 206, 169, 32, 48, 51, 69, 48, 32, 45], [53, 48], [206, 157, 32, 206, 158, 32, 206, 159, 32, 206, 160, 32, 48, 51, 68, 69, 32, 206, 161, 32, 206, 163, 32, 45, 32, 206, 164, 32, 206, 165, 32, 206, 166, 32, 206, 167, 32, 206, 168, 32, 206, 169, 32, 48, 51, 69, 48, 32, 45], true, 80, 15, [[206, 157], [206, 158], [206, 159], [206, 160], [48, 51, 68, 69], [206, 161], [206, 163], [45], [206, 164], [206, 165], [206, 166], [206, 167], [206, 168], [206, 169], [48, 51, 69, 48], [45]]⟩,
  ⟨[54, 48, 32, 45, 32, 206, 177, 32, 206, 178, 32, 48, 51, 68, 48, 32, 206, 179, 32, 206, 180, 32, 206, 181, 32, 48, 51, 68, 66, 32, 48, 51, 68, 68, 32, 206, 182, 32, 206, 183, 32, 206, 184, 32, 206, 185, 32, 206, 186, 32, 206, 187, 32, 206, 188], [54, 48, 32, 45, 32, 206, 177, 32, 206, 178, 32, 48, 51, 68, 48, 32, 206, 179, 32, 206, 180, 32, 206, 181, 32, 48, 51, 68, 66, 32, 48, 51, 68, 68, 32, 206, 182, 32, 206, 183, 32, 206, 184, 32, 206, 185, 32, 206, 186, 32, 206, 187, 32, 206, 188], [54, 48], [45, 32, 206, 177, 32, 206, 178, 32, 48, 51, 68, 48, 32, 206, 179, 32, 206, 180, 32, 206, 181, 32, 48, 51, 68, 66, 32, 48, 51, 68, 68, 32, 206, 182, 32, 206, 183, 32, 206, 184, 32, 206, 185, 32, 206, 186, 32, 206, 187, 32, 206, 188], true, 96, 15, [[45], [206, 177], [206, 178], [48, 51, 68, 48], [206, 179], [206, 180], [206, 181], [48, 51, 68, 66], [48, 51, 68, 68], [206, 182], [206, 183], [206, 184], [206, 185], [206, 186], [206, 187], [206, 188]]⟩,
  ⟨[55, 48, 32, 206, 189, 32, 206, 190, 32, 206, 191, 32, 207, 128, 32, 48, 51, 68, 70, 32, 207, 129, 32, 207, 131, 32, 207, 130, 32, 207, 132, 32, 207, 133, 32, 207, 134, 32, 207, 135, 32, 207, 136, 32, 207, 137, 32, 48, 51, 69, 49], [55, 48, 32, 206, 189, 32, 206, 190, 32, 206, 191, 32, 207, 128, 32, 48, 51, 68, 70, 32, 207, 129, 32, 207, 131, 32, 207, 130, 32, 207, 132, 32, 207, 133, 32, 207, 134, 32, 207, 135, 32, 207, 136, 32, 207, 137, 32, 48, 51, 69, 49], [55, 48], [206, 189, 32, 206, 190, 32, 206, 191, 32, 207, 128, 32, 48, 51, 68, 70, 32, 207, 129, 32, 207, 131, 32, 207, 130, 32, 207, 132, 32, 207, 133, 32, 207, 134, 32, 207, 135, 32, 207, 136, 32, 207, 137, 32, 48, 51, 69, 49], true, 112, 14, [[206, 189], [206, 190], [206, 191], [207, 128], [48, 51, 68, 70], [207, 129], [207, 131], [207, 130], [207, 132], [207, 133], [207, 134], [207, 135], [207, 136], [207, 137], [48, 51, 69, 49]]⟩,
  ⟨[], [], [], [], false, 0, 0, []⟩]
noncomputable def S3 : ByteArray := strAt Tryz.f99 1
theorem good3 : Good S3 tab3 recs3 := good_of (T := txt3) (by kernel_rfl) (by kernel_rfl) (by kernel_rfl) (by kernel_rfl) (by kernel_rfl) (by kernel_rfl) (by kernel_rfl)
def txt4 : List UInt8 := [10, 50, 49, 32, 48, 48, 50, 49, 32, 48, 53, 70, 52, 32, 48, 48, 50, 51, 32, 48, 48, 50, 52, 32, 48, 48, 50, 53, 32, 48, 48, 50, 54, 32, 48, 53, 70, 51, 32, 48, 48, 50, 56, 32, 48, 48, 50, 57, 32, 48, 48, 50, 65, 32, 48, 48, 50, 66, 32, 48, 48, 50, 67, 32, 48, 53, 66, 69, 32, 48, 48, 50, 69, 32, 48, 48, 50, 70, 10, 51, 48, 32, 48, 48, 51, 48, 32, 48, 48, 51, 49, 32, 48, 48, 51, 50, 32, 48, 48, 51, 51, 32, 48, 48, 51, 52, 32, 48, 48, 51, 53, 32, 48, 48, 51, 54, 32, 48, 48, 51, 55, 32, 48, 48, 51, 56, 32, 48, 48, 51, 57, 32, 48, 48, 51, 65, 32, 48, 48, 51, 66, 32, 48, 48, 51, 67, 32, 48, 48, 51, 68, 32, 48, 48, 51, 69, 32, 48, 48, 51, 70, 10, 52, 48, 32, 48, 53, 66, 55, 32, 48, 53, 66, 56, 32, 48, 53, 66, 54, 32, 48, 53, 66, 53, 32, 48, 53, 66, 52, 32, 48, 53, 66, 57, 32, 48, 53, 66, 66, 32, 48, 53, 66, 48, 32, 48, 53, 66, 50, 32, 48, 53, 66, 51, 32, 48, 53, 66, 49, 32, 48, 53, 66, 67, 32, 48, 53, 66, 70, 32, 48, 53, 67, 49, 32, 70, 66, 49, 69, 32, 45, 10, 54, 48, 32, 48, 53, 68, 48, 32, 48, 53, 68, 49, 32, 48, 53, 68, 50, 32, 48, 53, 68, 51, 32, 48, 53, 68, 52, 32, 48, 53, 68, 53, 32, 48, 53, 68, 54, 32, 48, 53, 68, 55, 32, 48, 53, 68, 56, 32, 48, 53, 68, 57, 32, 48, 53, 68, 65, 32, 48, 53, 68, 66, 32, 48, 53, 68, 67, 32, 48, 53, 68, 68, 32, 48, 53, 68, 69, 32, 48, 53, 68, 70, 10, 55, 48, 32, 48, 53, 69, 48, 32, 48, 53, 69, 49, 32, 48, 53, 69, 50, 32, 48, 53, 69, 51, 32, 48, 53, 69, 52, 32, 48, 53, 69, 53, 32, 48, 53, 69, 54, 32, 48, 53, 69, 55, 32, 48, 53, 69, 56, 32, 48, 53, 69, 57, 32, 48, 53, 69, 65, 32, 48, 53, 70, 48, 32, 48, 53, 70, 49, 32, 48, 53, 70, 50, 10]
def recs4 : List Ln := [⟨[], [], [], [], false, 0, 0, []⟩,
  ⟨[50, 49, 32, 48, 48, 50, 49, 32, 48, 53, 70, 52, 32, 48, 48, 50, 51, 32, 48, 48, 50, 52, 32, 48, 48, 50, 53, 32, 48, 48, 50, 54, 32, 48, 53, 70, 51, 32, 48, 48, 50, 56, 32, 48, 48, 50, 57, 32, 48, 48, 50, 65, 32, 48, 48, 50, 66, 32, 48, 48, 50, 67, 32, 48, 53, 66, 69, 32, 48, 48, 50, 69, 32, 48, 48, 50, 70], [50, 49, 32, 48, 48, 50, 49, 32, 48, 53, 70, 52, 32, 48, 48, 50, 51, 32, 48, 48, 50, 52, 32, 48, 48, 50, 53, 32, 48, 48, 50, 54, 32, 48, 53, 70, 51, 32, 48, 48, 50, 56, 32, 48, 48, 50, 57, 32, 48, 48, 50, 65, 32, 48, 48, 50, 66, 32, 48, 48, 50, 67, 32, 48, 53, 66, 69, 32, 48, 48, 50, 69, 32, 48, 48, 50, 70], [50, 49], [48, 48, 50, 49, 32, 48, 53, 70, 52, 32, 48, 48, 50, 51, 32, 48, 48, 50, 52, 32, 48, 48, 50, 53, 32, 48, 48, 50, 54, 32, 48, 53, 70, 51, 32, 48, 48, 50, 56, 32, 48, 48, 50, 57, 32, 48, 48, 50, 65, 32, 48, 48, 50, 66, 32, 48, 48, 50, 67, 32, 48, 53, 66, 69, 32, 48, 48, 50, 69, 32, 48, 48, 50, 70], true, 33, 14, [[48, 48, 50, 49], [48, 53, 70, 52], [48, 48, 50, 51], [48, 48, 50, 52], [48, 48, 50, 53], [48, 48, 50, 54], [48, 53, 70, 51], [48, 48, 50, 56], [48, 48, 50, 57], [48, 48, 50, 65], [48, 48, 50, 66], [48, 48, 50, 67], [48, 53, 66, 69], [48, 48, 50, 69], [48, 48, 50, 70]]⟩,
  ⟨[51, 48, 32, 48, 48, 51, 48, 32, 48, 48, 51, 49, 32, 48, 48, 51, 50, 32, 48, 48, 51, 51, 32, 48, 48, 51, 52, 32, 48, 48, 51, 53, 32, 48, 48, 51, 54, 32, 48, 48, 51, 55, 32, 48, 48, 51, 56, 32, 48, 48, 51, 57, 32, 48, 48, 51, 65, 32, 48, 48, 51, 66, 32, 48, 48, 51, 67, 32, 48, 48, 51, 68, 32, 48, 48, 51, 69, 32, 48, 48, 51, 70], [51, 48, 32, 48, 48, 51, 48, 32, 48, 48, 51, 49, 32, 48, 48, 51, 50, 32, 48, 48, 51, 51, 32, 48, 48, 51, 52, 32, 48, 48, 51, 53, 32, 48, 48, 51, 54, 32, 48, 48, 51, 55, 32, 48, 48, 51, 56, 32, 48, 48, 51, 57, 32, 48, 48, 51, 65, 32, 48, 48, 51, 66, 32, 48, 48, 51, 67, 32, 48, 48, 51, 68, 32, 48, 48, 51, 69, 32, 48, 48, 51, 70], [51, 48], [48, 48, 51, 48, 32, 48, 48, 51, 49, 32, 48, 48, 51, 50, 32, 48, 48, 51, 51, 32, 48, 48, 51, 52, 32, 48, 48, 51, 53, 32, 48, 48, 51, 54, 32, 48, 48, 51, 55, 32, 48, 48, 51, 56, 32, 48, 48, 51, 57, 32, 48, 48, 51, 65, 32, 48, 48, 51, 66, 32, 48, 48, 51, 67, 32, 48, 48, 51, 68, 32, 48, 48, 51, 69, 32, 48, 48, 51, 70], true, 48, 15, [[48, 48, 51, 48], [48, 48, 51, 49], [48, 48, 51, 50], [48, 48, 51, 51], [48, 48, 51, 52], [48, 48, 51, 53], [48, 48, 51, 54], [48, 48, 51, 55], [48, 48, 51, 56], [48, 48, 51, 57], [48, 48, 51, 65], [48, 48, 51, 66], [48, 48, 51, 67], [48, 48, 51, 68], [48, 48, 51, 69], [48, 48, 51, 70]]⟩,
  ⟨[52, 48, 32, 48, 53, 66, 55, 32, 48, 53, 66, 56, 32, 48, 53, 66, 54, 32, 48, 53, 66, 53, 32, 48, 53, 66, 52, 32, 48, 53, 66, 57, 32, 48, 53, 66, 66, 32, 48, 53, 66, 48, 32, 48, 53, 66, 50, 32, 48, 53, 66, 51, 32, 48, 53, 66, 49, 32, 48, 53, 66, 67, 32, 48, 53, 66, 70, 32, 48, 53, 67, 49, 32, 70, 66, 49, 69, 32, 45], [52, 48, 32, 48, 53, 66, 55, 32, 48, 53, 66, 56, 32, 48, 53, 66, 54, 32, 48, 53, 66, 53, 32, 48, 53, 66, 52, 32, 48, 53, 66, 57, 32, 48, 53, 66, 66, 32, 48, 53, 66, 48, 32, 48, 53, 66, 50, 32, 48, 53, 66, 51, 32, 48, 53, 66, 49, 32, 48, 53, 66, 67, 32, 48, 53, 66, 70, 32, 48, 53, 67, 49, 32, 70, 66, 49, 69, 32, 45], [52, 48], [48, 53, 66, 55, 32, 48, 53, 66, 56, 32, 48, 53, 66, 54, 32, 48, 53, 66, 53, 32, 48, 53, 66, 52, 32, 48, 53, 66, 57, 32, 48, 53, 66, 66, 32, 48, 53, 66, 48, 32, 48, 53, 66, 50, 32, 48, 53, 66, 51, 32, 48, 53, 66, 49, 32, 48, 53, 66, 67, 32, 48, 53, 66, 70, 32, 48, 53, 67, 49, 32, 70, 66, 49, 69, 32, 45], true, 64, 15, [[48, 53, 66, 55], [48, 53, 66, 56], [48, 53, 66, 54], [48, 53, 66, 53], [48, 53, 66, 52], [48, 53, 66, 57], [48, 53, 66, 66], [48, 53, 66, 48], [48, 53, 66, 50], [48, 53, 66, 51], [48, 53, 66, 49], [48, 53, 66, 67], [48, 53, 66, 70], [48, 53, 67, 49], [70, 66, 49, 69], [45]]⟩,
  ⟨[54, 48, 32, 48, 53, 68, 48, 32, 48, 53, 68, 49, 32, 48, 53, 68, 50, 32, 48, 53, 68, 51, 32, 48, 53, 68, 52, 32, 48, 53, 68, 53, 32, 48, 53, 68, 54, 32, 48, 53, 68, 55, 32, 48, 53, 68, 56, 32, 48, 53, 68, 57, 32, 48, 53, 68, 65, 32, 48, 53, 68, 66, 32, 48, 53, 68, 67, 32, 48, 53, 68, 68, 32, 48, 53, 68, 69, 32, 48, 53, 68, 70], [54, 48, 32, 48, 53, 68, 48, 32, 48, 53, 68, 49, 32, 48, 53, 68, 50, 32, 48, 53, 68, 51, 32, 48, 53, 68, 52, 32, 48, 53, 68, 53, 32, 48, 53, 68, 54, 32, 48, 53, 68, 55, 32, 48, 53, 68, 56, 32, 48, 53, 68, 57, 32, 48, 53, 68, 65, 32, 48, 53, 68, 66, 32, 48, 53, 68, 67, 32, 48, 53, 68, 68, 32, 48, 53, 68, 69, 32, 48, 53, 68, 70], [54, 48], [48, 53, 68, 48, 32, 48, 53, 68, 49, 32, 48, 53, 68, 50, 32, 48, 53, 68, 51, 32, 48, 53, 68, 52, 32, 48, 53, 68, 53, 32, 48, 53, 68, 54, 32, 48, 53, 68, 55, 32, 48, 53, 68, 56, 32, 48, 53, 68, 57, 32, 48, 53, 68, 65, 32, 48, 53, 68, 66, 32, 48, 53, 68, 67, 32, 48, 53, 68, 68, 32, 48, 53, 68, 69, 32, 48, 53, 68, 70], true, 96, 15, [[48, 53, 68, 48], [48, 53, 68, 49], [48, 53, 68, 50], [48, 53, 68, 51], [48, 53, 68, 52], [48, 53, 68, 53], [48, 53, 68, 54], [48, 53, 68, 55], [48, 53, 68, 56], [48, 53, 68, 57], [48, 53, 68, 65], [48, 53, 68, 66], [48, 53, 68, 67], [48, 53, 68, 68], [48, 53, 68, 69], [48, 53, 68, 70]]⟩,
  ⟨[55, 48, 32, 48, 53, 69, 48, 32, 48, 53, 69, 49, 32, 48, 53, 69, 50, 32, 48, 53, 69, 51, 32, 48, 53, 69, 52, 32, 48, 53, 69, 53, 32, 48, 53, 69, 54, 32, 48, 53, 69, 55, 32, 48, 53, 69, 56, 32, 48, 53, 69, 57, 32, 48, 53, 69, 65, 32, 48, 53, 70, 48, 32, 48, 53, 70, 49, 32, 48, 53, 70, 50], [55, 48, 32, 48, 53, 69, 48, 32, 48, 53, 69, 49, 32, 48, 53, 69, 50, 32, 48, 53, 69, 51, 32, 48, 53, 69, 52, 32, 48, 53, 69, 53, 32, 48, 53, 69, 54, 32, 48, 53, 69, 55, 32, 48, 53, 69, 56, 32, 48, 53, 69, 57, 32, 48, 53, 69, 65, 32, 48, 53, 70, 48, 32, 48, 53, 70, 49, 32, 48, 53, 70, 50], [55, 48], [48, 53, 69, 48, 32, 48, 53, 69, 49, 32, 48, 53, 69, 50, 32, 48, 53, 69, 51, 32, 48, 53, 69, 52, 32, 48, 53, 69, 53, 32, 48, 53, 69, 54, 32, 48, 53, 69, 55, 32, 48, 53, 69, 56, 32, 48, 53, 69, 57, 32, 48, 53, 69, 65, 32, 48, 53, 70, 48, 32, 48, 53, 70, 49, 32, 48, 53, 70, 50], true, 112, 13, [[48, 53, 69, 48], [48, 53, 69, 49], [48, 53, 69, 50], [48, 53, 69, 51], [48, 53, 69, 52], [48, 53, 69, 53], [48, 53, 69, 54], [48, 53, 69, 55], [48, 53, 69, 56], [48, 53, 69, 57], [48, 53, 69, 65], [48, 53, 70, 48], [48, 53, 70, 49], [48, 53, 70, 50]]⟩,
  ⟨[], [], [], [], false, 0, 0, []⟩]
noncomputable def S4 : ByteArray := strAt Tryz.f99 2
theorem good4 : Good S4 tab4 recs4 := good_of (T := txt4) (by kernel_rfl) (by kernel_rfl) (by kernel_rfl) (by kernel_rfl) (by kernel_rfl) (by kernel_rfl) (by kernel_rfl)
def txt5 : List UInt8 := [10, 50, 49, 32, 48, 48, 50, 49, 32, 48, 48, 50, 50, 32, 48, 48, 50, 51, 32, 48, 48, 50, 52, 32, 48, 54, 54, 65, 32, 48, 48, 50, 54, 32, 48, 48, 50, 55, 32, 48, 48, 50, 56, 32, 48, 48, 50, 57, 32, 48, 54, 54, 68, 32, 48, 48, 50, 66, 32, 48, 54, 48, 67, 32, 48, 48, 50, 68, 32, 48, 48, 50, 69, 32, 48, 48, 50, 70, 10, 51, 48, 32, 48, 54, 54, 48, 32, 48, 54, 54, 49, 32, 48, 54, 54, 50, 32, 48, 54, 54, 51, 32, 48, 54, 54, 52, 32, 48, 54, 54, 53, 32, 48, 54, 54, 54, 32, 48, 54, 54, 55, 32, 48, 54, 54, 56, 32, 48, 54, 54, 57, 32, 48, 48, 51, 65, 32, 48, 54, 49, 66, 32, 48, 48, 51, 67, 32, 48, 48, 51, 68, 32, 48, 48, 51, 69, 32, 48, 54, 49, 70, 10, 52, 48, 32, 45, 32, 48, 54, 50, 49, 32, 48, 54, 50, 50, 32, 48, 54, 50, 51, 32, 48, 54, 50, 52, 32, 48, 54, 50, 53, 32, 48, 54, 50, 54, 32, 48, 54, 50, 55, 32, 48, 54, 50, 56, 32, 48, 54, 50, 57, 32, 48, 54, 50, 65, 32, 48, 54, 50, 66, 32, 48, 54, 50, 67, 32, 48, 54, 50, 68, 32, 48, 54, 50, 69, 32, 48, 54, 50, 70, 10, 53, 48, 32, 48, 54, 51, 48, 32, 48, 54, 51, 49, 32, 48, 54, 51, 50, 32, 48, 54, 51, 51, 32, 48, 54, 51, 52, 32, 48, 54, 51, 53, 32, 48, 54, 51, 54, 32, 48, 54, 51, 55, 32, 48, 54, 51, 56, 32, 48, 54, 51, 57, 32, 48, 54, 51, 65, 32, 48, 48, 53, 66, 32, 45, 32, 48, 48, 53, 68, 32, 45, 32, 45, 10, 54, 48, 32, 48, 54, 52, 48, 32, 48, 54, 52, 49, 32, 48, 54, 52, 50, 32, 48, 54, 52, 51, 32, 48, 54, 52, 52, 32, 48, 54, 52, 53, 32, 48, 54, 52, 54, 32, 48, 54, 52, 55, 32, 48, 54, 52, 56, 32, 48, 54, 52, 57, 32, 48, 54, 52, 65, 32, 48, 54, 52, 66, 32, 48, 54, 52, 67, 32, 48, 54, 52, 68, 32, 48, 54, 52, 69, 32, 48, 54, 52, 70, 10, 55, 48, 32, 48, 54, 53, 48, 32, 48, 54, 53, 49, 32, 48, 54, 53, 50, 32, 48, 54, 55, 49, 32, 48, 54, 55, 48, 32, 45, 32, 45, 32, 45, 32, 48, 54, 54, 67, 32, 50, 48, 49, 68, 32, 50, 48, 49, 67, 10]
def recs5 : List Ln := [⟨[], [], [], [], false, 0, 0, []⟩,
  ⟨[50, 49, 32, 48, 48, 50, 49, 32, 48, 48, 50, 50, 32, 48, 48, 50, 51, 32, 48, 48, 50, 52, 32, 48, 54, 54, 65, 32, 48, 48, 50, 54, 32, 48, 48, 50, 55, 32, 48, 48, 50, 56, 32, 48, 48, 50, 57, 32, 48, 54, 54, 68, 32, 48, 48, 50, 66, 32, 48, 54, 48, 67, 32, 48, 48, 50, 68, 32, 48, 48, 50, 69, 32, 48, 48, 50, 70], [50, 49, 32, 48, 48, 50, 49, 32, 48, 48, 50, 50, 32, 48, 48, 50, 51, 32, 48, 48, 50, 52, 32, 48, 54, 54, 65, 32, 48, 48, 50, 54, 32, 48, 48, 50, 55, 32, 48, 48, 50, 56, 32, 48, 48, 50, 57, 32, 48, 54, 54, 68, 32, 48, 48, 50, 66, 32, 48, 54, 48, 67, 32, 48, 48, 50, 68, 32, 48, 48, 50, 69, 32, 48, 48, 50, 70], [50, 49], [48, 48, 50, 49, 32, 48, 48, 50, 50, 32, 48, 48, 50, 51, 32, 48, 48, 50, 52, 32, 48, 54, 54, 65, 32, 48, 48, 50, 54, 32, 48, 48, 50, 55, 32, 48, 48, 50, 56, 32, 48, 48, 50, 57, 32, 48, 54, 54, 68, 32, 48, 48, 50, 66, 32, 48, 54, 48, 67, 32, 48, 48, 50, 68, 32, 48, 48, 50, 69, 32, 48, 48, 50, 70], true, 33, 14, [[48, 48, 50, 49], [48, 48, 50, 50], [48, 48, 50, 51], [48, 48, 50, 52], [48, 54, 54, 65], [48, 48, 50, 54], [48, 48, 50, 55], [48, 48, 50, 56], [48, 48, 50, 57], [48, 54, 54, 68], [48, 48, 50, 66], [48, 54, 48, 67], [48, 48, 50, 68], [48, 48, 50, 69], [48, 48, 50, 70]]⟩,
  ⟨[51, 48, 32, 48, 54, 54, 48, 32, 48, 54, 54, 49, 32, 48, 54, 54, 50, 32, 48, 54, 54, 51, 32, 48, 54, 54, 52, 32, 48, 54, 54, 53, 32, 48, 54, 54, 54, 32, 48, 54, 54, 55, 32, 48, 54, 54, 56, 32, 48, 54, 54, 57, 32, 48, 48, 51, 65, 32, 48, 54, 49, 66, 32, 48, 48, 51, 67, 32, 48, 48, 51, 68, 32, 48, 48, 51, 69, 32, 48, 54, 49, 70], [51, 48, 32, 48, 54, 54, 48, 32, 48, 54, 54, 49, 32, 48, 54, 54, 50, 32, 48, 54, 54, 51, 32, 48, 54, 54, 52, 32, 48, 54, 54, 53, 32, 48, 54, 54, 54, 32, 48, 54, 54, 55, 32, 48, 54, 54, 56, 32, 48, 54, 54, 57, 32, 48, 48, 51, 65, 32, 48, 54, 49, 66, 32, 48, 48, 51, 67, 32, 48, 48, 51, 68, 32, 48, 48, 51, 69, 32, 48, 54, 49, 70], [51, 48], [48, 54, 54, 48, 32, 48, 54, 54, 49, 32, 48, 54, 54, 50, 32, 48, 54, 54, 51, 32, 48, 54, 54, 52, 32, 48, 54, 54, 53, 32, 48, 54, 54, 54, 32, 48, 54, 54, 55, 32, 48, 54, 54, 56, 32, 48, 54, 54, 57, 32, 48, 48, 51, 65, 32, 48, 54, 49, 66, 32, 48, 48, 51, 67, 32, 48, 48, 51, 68, 32, 48, 48, 51, 69, 32, 48, 54, 49, 70], true, 48, 15, [[48, 54, 54, 48], [48, 54, 54, 49], [48, 54, 54, 50], [48, 54, 54, 51], [48, 54, 54, 52], [48, 54, 54, 53], [48, 54, 54, 54], [48, 54, 54, 55], [48, 54, 54, 56], [48, 54, 54, 57], [48, 48, 51, 65], [48, 54, 49, 66], [48, 48, 51, 67], [48, 48, 51, 68], [48, 48, 51, 69], [48, 54, 49, 70]]⟩,
  ⟨[52, 48, 32, 45, 32, 48, 54, 50, 49, 32, 48, 54, 50, 50, 32, 48, 54, 50, 51, 32, 48, 54, 50, 52, 32, 48, 54, 50, 53, 32, 48, 54, 50, 54, 32, 48, 54, 50, 55, 32, 48, 54, 50, 56, 32, 48, 54, 50, 57, 32, 48, 54, 50, 65, 32, 48, 54, 50, 66, 32, 48, 54, 50, 67, 32, 48, 54, 50, 68, 32, 48, 54, 50, 69, 32, 48, 54, 50, 70], [52, 48, 32, 45, 32, 48, 54, 50, 49, 32, 48, 54, 50, 50, 32, 48, 54, 50, 51, 32, 48, 54, 50, 52, 32, 48, 54, 50, 53, 32, 48, 54, 50, 54, 32, 48, 54, 50, 55, 32, 48, 54, 50, 56, 32, 48, 54, 50, 57, 32, 48, 54, 50, 65, 32, 48, 54, 50, 66, 32, 48, 54, 50, 67, 32, 48, 54, 50, 68, 32, 48, 54, 50, 69, 32, 48, 54, 50, 70], [52, 48], [45, 32, 48, 54, 50, 49, 32, 48, 54, 50, 50, 32, 48, 54, 50, 51, 32, 48, 54, 50, 52, 32, 48, 54, 50, 53, 32, 48, 54, 50, 54, 32, 48, 54, 50, 55, 32, 48, 54, 50, 56, 32, 48, 54, 50, 57, 32, 48, 54, 50, 65, 32, 48, 54, 50, 66, 32, 48, 54, 50, 67, 32, 48, 54, 50, 68, 32, 48, 54, 50, 69, 32, 48, 54, 50, 70], true, 64, 15, [[45], [48, 54, 50, 49], [48, 54, 50, 50], [48, 54, 50, 51], [48, 54, 50, 52], [48, 54, 50, 53], [48, 54, 50, 54], [48, 54, 50, 55], [48, 54, 50, 56], [48, 54, 50, 57], [48, 54, 50, 65], [48, 54, 50, 66], [48, 54, 50, 67], [48, 54, 50, 68], [48, 54, 50, 69], [48, 54, 50, 70]]⟩,
  ⟨[53, 48, 32, 48, 54, 51, 48, 32, 48, 54, 51, 49, 32, 48, 54, 51, 50, 32, 48, 54, 51, 51, 32, 48, 54, 51, 52, 32, 48, 54, 51, 53, 32, 48, 54, 51, 54, 32, 48, 54, 51, 55, 32, 48, 54, 51, 56, 32, 48, 54, 51, 57, 32, 48, 54, 51, 65, 32, 48, 48, 53, 66, 32, 45, 32, 48, 48, 53, 68, 32, 45, 32, 45], [53, 48, 32, 48, 54, 51, 48, 32, 48, 54, 51, 49, 32, 48, 54, 51, 50, 32, 48, 54, 51, 51, 32, 48, 54, 51, 52, 32, 48, 54, 51, 53, 32, 48, 54, 51, 54, 32, 48, 54, 51, 55, 32, 48, 54, 51, 56, 32, 48, 54, 51, 57, 32, 48, 54, 51, 65, 32, 48, 48, 53, 66, 32, 45, 32, 48, 48, 53, 68, 32, 45, 32, 45], [53, 48], [48, 54, 51, 48, 32, 48, 54, 51, 49, 32, 48, 54, 51, 50, 32, 48, 54, 51, 51, 32, 48, 54, 51, 52, 32, 48, 54, 51, 53, 32, 48, 54, 51, 54, 32, 48, 54, 51, 55, 32, 48, 54, 51, 56, 32, 48, 54, 51, 57, 32, 48, 54, 51, 65, 32, 48, 48, 53, 66, 32, 45, 32, 48, 48, 53, 68, 32, 45, 32, 45], true, 80, 15, [[48, 54, 51, 48], [48, 54, 51, 49], [48, 54, 51, 50], [48, 54, 51, 51], [48, 54, 51, 52], [48, 54, 51, 53], [48, 54, 51, 54], [48, 54, 51, 55], [48, 54, 51, 56], [48, 54, 51, 57], [48, 54, 51, 65], [48, 48, 53, 66], [45], [48, 48, 53, 68], [45], [45]]⟩,
  ⟨[54, 48, 32, 48, 54, 52, 48, 32, 48, 54, 52, 49, 32, 48, 54, 52, 50, 32, 48, 54, 52, 51, 32, 48, 54, 52, 52, 32, 48, 54, 52, 53, 32, 48, 54, 52, 54, 32, 48, 54, 52, 55, 32, 48, 54, 52, 56, 32, 48, 54, 52, 57, 32, 48, 54, 52, 65, 32, 48, 54, 52, 66, 32, 48, 54, 52, 67, 32, 48, 54, 52, 68, 32, 48, 54, 52, 69, 32, 48, 54, 52, 70], [54, 48, 32, 48, 54, 52, 48, 32, 48, 54, 52, 49, 32, 48, 54, 52, 50, 32, 48, 54, 52, 51, 32, 48, 54, 52, 52, 32, 48, 54, 52, 53, 32, 48, 54, 52, 54, 32, 48, 54, 52, 55, 32, 48, 54, 52, 56, 32, 48, 54, 52, 57, 32, 48, 54, 52, 65, 32, 48, 54, 52, 66, 32, 48, 54, 52, 67, 32, 48, 54, 52, 68, 32, 48, 54, 52, 69, 32, 48, 54, 52, 70], [54, 48], [48, 54, 52, 48, 32, 48, 54, 52, 49, 32, 48, 54, 52, 50, 32, 48, 54, 52, 51, 32, 48, 54, 52, 52, 32, 48, 54, 52, 53, 32, 48, 54, 52, 54, 32, 48, 54, 52, 55, 32, 48, 54, 52, 56, 32, 48, 54, 52, 57, 32, 48, 54, 52, 65, 32, 48, 54, 52, 66, 32, 48, 54, 52, 67, 32, 48, 54, 52, 68, 32, 48, 54, 52, 69, 32, 48, 54, 52, 70], true, 96, 15, [[48, 54, 52, 48], [48, 54, 52, 49], [48, 54, 52, 50], [48, 54, 52, 51], [48, 54, 52, 52], [48, 54, 52, 53], [48, 54, 52, 54], [48, 54, 52, 55], [48, 54, 52, 56], [48, 54, 52, 57], [48, 54, 52, 65], [48, 54, 52, 66], [48, 54, 52, 67], [48, 54, 52, 68], [48, 54, 52, 69], [48, 54, 52, 70]]⟩,
  ⟨[55, 48, 32, 48, 54, 53, 48, 32, 48, 54, 53, 49, 32, 48, 54, 53, 50, 32, 48, 54, 55, 49, 32, 48, 54, 55, 48, 32, 45, 32, 45, 32, 45, 32, 48, 54, 54, 67, 32, 50, 48, 49, 68, 32, 50, 48, 49, 67], [55, 48, 32, 48, 54, 53, 48, 32, 48, 54, 53, 49, 32, 48, 54, 53, 50, 32, 48, 54, 55, 49, 32, 48, 54, 55, 48, 32, 45, 32, 45, 32, 45, 32, 48, 54, 54, 67, 32, 50, 48, 49, 68, 32, 50, 48, 49, 67], [55, 48], [48, 54, 53, 48, 32, 48, 54, 53, 49, 32, 48, 54, 53, 50, 32, 48, 54, 55, 49, 32, 48, 54, 55, 48, 32, 45, 32, 45, 32, 45, 32, 48, 54, 54, 67, 32, 50, 48, 49, 68, 32, 50, 48, 49, 67], true, 112, 10, [[48, 54, 53, 48], [48, 54, 53, 49], [48, 54, 53, 50], [48, 54, 55, 49], [48, 54, 55, 48], [45], [45], [45], [48, 54, 54, 67], [50, 48, 49, 68], [50, 48, 49, 67]]⟩,
  ⟨[], [], [], [], false, 0, 0, []⟩]
noncomputable def S5 : ByteArray := strAt Tryz.f99 3
theorem good5 : Good S5 tab5 recs5 := good_of (T := txt5) (by kernel_rfl) (by kernel_rfl) (by kernel_rfl) (by kernel_rfl) (by kernel_rfl) (by kernel_rfl) (by kernel_rfl)
def txt6 : List UInt8 := [10, 50, 49, 32, 48, 54, 70, 68, 32, 48, 54, 55, 50, 32, 48, 54, 55, 51, 32, 48, 54, 55, 57, 32, 48, 54, 55, 65, 32, 48, 54, 55, 66, 32, 48, 54, 55, 67, 32, 48, 54, 55, 68, 32, 48, 54, 55, 69, 32, 48, 54, 55, 70, 32, 48, 54, 56, 48, 32, 48, 54, 56, 49, 32, 48, 54, 56, 50, 32, 48, 54, 56, 51, 32, 48, 54, 56, 52, 10, 51, 48, 32, 48, 54, 56, 53, 32, 48, 54, 56, 54, 32, 48, 54, 66, 70, 32, 48, 54, 56, 55, 32, 48, 54, 56, 56, 32, 48, 54, 56, 57, 32, 48, 54, 56, 65, 32, 48, 54, 56, 66, 32, 48, 54, 56, 67, 32, 48, 54, 56, 68, 32, 48, 54, 56, 69, 32, 48, 54, 56, 70, 32, 48, 54, 57, 48, 32, 48, 54, 57, 49, 32, 48, 54, 57, 50, 32, 48, 54, 57, 51, 10, 52, 48, 32, 48, 54, 57, 52, 32, 48, 54, 57, 53, 32, 48, 54, 57, 54, 32, 48, 54, 57, 55, 32, 48, 54, 57, 56, 32, 48, 54, 57, 57, 32, 48, 54, 57, 65, 32, 48, 54, 57, 66, 32, 48, 54, 57, 67, 32, 48, 54, 70, 65, 32, 48, 54, 57, 68, 32, 48, 54, 57, 69, 32, 48, 54, 70, 66, 32, 48, 54, 57, 70, 32, 48, 54, 65, 48, 32, 48, 54, 70, 67, 10, 53, 48, 32, 48, 54, 65, 49, 32, 48, 54, 65, 50, 32, 48, 54, 65, 51, 32, 48, 54, 65, 52, 32, 48, 54, 65, 53, 32, 48, 54, 65, 54, 32, 48, 54, 65, 55, 32, 48, 54, 65, 56, 32, 48, 54, 65, 57, 32, 48, 54, 65, 65, 32, 48, 54, 65, 66, 32, 48, 54, 65, 67, 32, 48, 54, 65, 68, 32, 48, 54, 65, 69, 32, 48, 54, 65, 70, 32, 48, 54, 66, 48, 10, 54, 48, 32, 48, 54, 66, 49, 32, 48, 54, 66, 50, 32, 48, 54, 66, 51, 32, 48, 54, 66, 52, 32, 48, 54, 66, 53, 32, 48, 54, 66, 54, 32, 48, 54, 66, 55, 32, 48, 54, 66, 56, 32, 48, 54, 66, 65, 32, 48, 54, 66, 66, 32, 48, 54, 66, 67, 32, 48, 54, 66, 68, 32, 48, 54, 66, 57, 32, 48, 54, 66, 69, 10]
def recs6 : List Ln := [⟨[], [], [], [], false, 0, 0, []⟩,
  ⟨[50, 49, 32, 48, 54, 70, 68, 32, 48, 54, 55, 50, 32, 48, 54, 55, 51, 32, 48, 54, 55, 57, 32, 48, 54, 55, 65, 32, 48, 54, 55, 66, 32, 48, 54, 55, 67, 32, 48, 54, 55, 68, 32, 48, 54, 55, 69, 32, 48, 54, 55, 70, 32, 48, 54, 56, 48, 32, 48, 54, 56, 49, 32, 48, 54, 56, 50, 32, 48, 54, 56, 51, 32, 48, 54, 56, 52], [50, 49, 32, 48, 54, 70, 68, 32, 48, 54, 55, 50, 32, 48, 54, 55, 51, 32, 48, 54, 55, 57, 32, 48, 54, 55, 65, 32, 48, 54, 55, 66, 32, 48, 54, 55, 67, 32, 48, 54, 55, 68, 32, 48, 54, 55, 69, 32, 48, 54, 55, 70, 32, 48, 54, 56, 48, 32, 48, 54, 56, 49, 32, 48, 54, 56, 50, 32, 48, 54, 56, 51, 32, 48, 54, 56, 52], [50, 49], [48, 54, 70, 68, 32, 48, 54, 55, 50, 32, 48, 54, 55, 51, 32, 48, 54, 55, 57, 32, 48, 54, 55, 65, 32, 48, 54, 55, 66, 32, 48, 54, 55, 67, 32, 48, 54, 55, 68, 32, 48, 54, 55, 69, 32, 48, 54, 55, 70, 32, 48, 54, 56, 48, 32, 48, 54, 56, 49, 32, 48, 54, 56, 50, 32, 48, 54, 56, 51, 32, 48, 54, 56, 52], true, 33, 14, [[48, 54, 70, 68], [48, 54, 55, 50], [48, 54, 55, 51], [48, 54, 55, 57], [48, 54, 55, 65], [48, 54, 55, 66], [48, 54, 55, 67], [48, 54, 55, 68], [48, 54, 55, 69], [48, 54, 55, 70], [48, 54, 56, 48], [48, 54, 56, 49], [48, 54, 56, 50], [48, 54, 56, 51], [48, 54, 56, 52]]⟩,
  ⟨[51, 48, 32, 48, 54, 56, 53, 32, 48, 54, 56, 54, 32, 48, 54, 66, 70, 32, 48, 54, 56, 55, 32, 48, 54, 56, 56, 32, 48, 54, 56, 57, 32, 48, 54, 56, 65, 32, 48, 54, 56, 66, 32, 48, 54, 56, 67, 32, 48, 54, 56, 68, 32, 48, 54, 56, 69, 32, 48, 54, 56, 70, 32, 48, 54, 57, 48, 32, 48, 54, 57, 49, 32, 48, 54, 57, 50, 32, 48, 54, 57, 51], [51, 48, 32, 48, 54, 56, 53, 32, 48, 54, 56, 54, 32, 48, 54, 66, 70, 32, 48, 54, 56, 55, 32, 48, 54, 56, 56, 32, 48, 54, 56, 57, 32, 48, 54, 56, 65, 32, 48, 54, 56, 66, 32, 48, 54, 56, 67, 32, 48, 54, 56, 68, 32, 48, 54, 56, 69, 32, 48, 54, 56, 70, 32, 48, 54, 57, 48, 32, 48, 54, 57, 49, 32, 48, 54, 57, 50, 32, 48, 54, 57, 51], [51, 48], [48, 54, 56, 53, 32, 48, 54, 56, 54, 32, 48, 54, 66, 70, 32, 48, 54, 56, 55, 32, 48, 54, 56, 56, 32, 48, 54, 56, 57, 32, 48, 54, 56, 65, 32, 48, 54, 56, 66, 32, 48, 54, 56, 67, 32, 48, 54, 56, 68, 32, 48, 54, 56, 69, 32, 48, 54, 56, 70, 32, 48, 54, 57, 48, 32, 48, 54, 57, 49, 32, 48, 54, 57, 50, 32, 48, 54, 57, 51], true, 48, 15, [[48, 54, 56, 53], [48, 54, 56, 54], [48, 54, 66, 70], [48, 54, 56, 55], [48, 54, 56, 56], [48, 54, 56, 57], [48, 54, 56, 65], [48, 54, 56, 66], [48, 54, 56, 67], [48, 54, 56, 68], [48, 54, 56, 69], [48, 54, 56, 70], [48, 54, 57, 48], [48, 54, 57, 49], [48, 54, 57, 50], [48, 54, 57, 51]]⟩,
  ⟨[52, 48, 32, 48, 54, 57, 52, 32, 48, 54, 57, 53, 32, 48, 54, 57, 54, 32, 48, 54, 57, 55, 32, 48, 54, 57, 56, 32, 48, 54, 57, 57, 32, 48, 54, 57, 65, 32, 48, 54, 57, 66, 32, 48, 54, 57, 67, 32, 48, 54, 70, 65, 32, 48, 54, 57, 68, 32, 48, 54, 57, 69, 32, 48, 54, 70, 66, 32, 48, 54, 57, 70, 32, 48, 54, 65, 48, 32, 48, 54, 70, 67], [52, 48, 32, 48, 54, 57, 52, 32, 48, 54, 57, 53, 32, 48, 54, 57, 54, 32, 48, 54, 57, 55, 32, 48, 54, 57, 56, 32, 48, 54, 57, 57, 32, 48, 54, 57, 65, 32, 48, 54, 57, 66, 32, 48, 54, 57, 67, 32, 48, 54, 70, 65, 32, 48, 54, 57, 68, 32, 48, 54, 57, 69, 32, 48, 54, 70, 66, 32, 48, 54, 57, 70, 32, 48, 54, 65, 48, 32, 48, 54, 70, 67], [52, 48], [48, 54, 57, 52, 32, 48, 54, 57, 53, 32, 48, 54, 57, 54, 32, 48, 54, 57, 55, 32, 48, 54, 57, 56, 32, 48, 54, 57, 57, 32, 48, 54, 57, 65, 32, 48, 54, 57, 66, 32, 48, 54, 57, 67, 32, 48, 54, 70, 65, 32, 48, 54, 57, 68, 32, 48, 54, 57, 69, 32, 48, 54, 70, 66, 32, 48, 54, 57, 70, 32, 48, 54, 65, 48, 32, 48, 54, 70, 67], true, 64, 15, [[48, 54, 57, 52], [48, 54, 57, 53], [48, 54, 57, 54], [48, 54, 57, 55], [48, 54, 57, 56], [48, 54, 57, 57], [48, 54, 57, 65], [48, 54, 57, 66], [48, 54, 57, 67], [48, 54, 70, 65], [48, 54, 57, 68], [48, 54, 57, 69], [48, 54, 70, 66], [48, 54, 57, 70], [48, 54, 65, 48], [48, 54, 70, 67]]⟩,
  ⟨[53, 48, 32, 48, 54, 65, 49, 32, 48, 54, 65, 50, 32, 48, 54, 65, 51, 32, 48, 54, 65, 52, 32, 48, 54, 65, 53, 32, 48, 54, 65, 54, 32, 48, 54, 65, 55, 32, 48, 54, 65, 56, 32, 48, 54, 65, 57, 32, 48, 54, 65, 65, 32, 48, 54, 65, 66, 32, 48, 54, 65, 67, 32, 48, 54, 65, 68, 32, 48, 54, 65, 69, 32, 48, 54, 65, 70, 32, 48, 54, 66, 48], [53, 48, 32, 48, 54, 65, 49, 32, 48, 54, 65, 50, 32, 48, 54, 65, 51, 32, 48, 54, 65, 52, 32, 48, 54, 65, 53, 32, 48, 54, 65, 54, 32, 48, 54, 65, 55, 32, 48, 54, 65, 56, 32, 48, 54, 65, 57, 32, 48, 54, 65, 65, 32, 48, 54, 65, 66, 32, 48, 54, 65, 67, 32, 48, 54, 65, 68, 32, 48, 54, 65, 69, 32, 48, 54, 65, 70, 32, 48, 54, 66, 48], [53, 48], [48, 54, 65, 49, 32, 48, 54, 65, 50, 32, 48, 54, 65, 51, 32, 48, 54, 65, 52, 32, 48, 54, 65, 53, 32, 48, 54, 65, 54, 32, 48, 54, 65, 55, 32, 48, 54, 65, 56, 32, 48, 54, 65, 57, 32, 48, 54, 65, 65, 32, 48, 54, 65, 66, 32, 48, 54, 65, 67, 32, 48, 54, 65, 68, 32, 48, 54, 65, 69, 32, 48, 54, 65, 70, 32, 48, 54, 66, 48], true, 80, 15, [[48, 54, 65, 49], [48, 54, 65, 50], [48, 54, 65, 51], [48, 54, 65, 52], [48, 54, 65, 53], [48, 54, 65, 54], [48, 54, 65, 55], [48, 54, 65, 56], [48, 54, 65, 57], [48, 54, 65, 65], [48, 54, 65, 66], [48, 54, 65, 67], [48, 54, 65, 68], [48, 54, 65, 69], [48, 54, 65, 70], [48, 54, 66, 48]]⟩,
  ⟨[54, 48, 32, 48, 54, 66, 49, 32, 48, 54, 66, 50, 32, 48, 54, 66, 51, 32, 48, 54, 66, 52, 32, 48, 54, 66, 53, 32, 48, 54, 66, 54, 32, 48, 54, 66, 55, 32, 48, 54, 66, 56, 32, 48, 54, 66, 65, 32, 48, 54, 66, 66, 32, 48, 54, 66, 67, 32, 48, 54, 66, 68, 32, 48, 54, 66, 57, 32, 48, 54, 66, 69], [54, 48, 32, 48, 54, 66, 49, 32, 48, 54, 66, 50, 32, 48, 54, 66, 51, 32, 48, 54, 66, 52, 32, 48, 54, 66, 53, 32, 48, 54, 66, 54, 32, 48, 54, 66, 55, 32, 48, 54, 66, 56, 32, 48, 54, 66, 65, 32, 48, 54, 66, 66, 32, 48, 54, 66, 67, 32, 48, 54, 66, 68, 32, 48, 54, 66, 57, 32, 48, 54, 66, 69], [54, 48], [48, 54, 66, 49, 32, 48, 54, 66, 50, 32, 48, 54, 66, 51, 32, 48, 54, 66, 52, 32, 48, 54, 66, 53, 32, 48, 54, 66, 54, 32, 48, 54, 66, 55, 32, 48, 54, 66, 56, 32, 48, 54, 66, 65, 32, 48, 54, 66, 66, 32, 48, 54, 66, 67, 32, 48, 54, 66, 68, 32, 48, 54, 66, 57, 32, 48, 54, 66, 69], true, 96, 13, [[48, 54, 66, 49], [48, 54, 66, 50], [48, 54, 66, 51], [48, 54, 66, 52], [48, 54, 66, 53], [48, 54, 66, 54], [48, 54, 66, 55], [48, 54, 66, 56], [48, 54, 66, 65], [48, 54, 66, 66], [48, 54, 66, 67], [48, 54, 66, 68], [48, 54, 66, 57], [48, 54, 66, 69]]⟩,
  ⟨[], [], [], [], false, 0, 0, []⟩]
noncomputable def S6 : ByteArray := strAt Tryz.f99 4
theorem good6 : Good S6 tab6 recs6 := good_of (T := txt6) (by kernel_rfl) (by kernel_rfl) (by kernel_rfl) (by kernel_rfl) (by kernel_rfl) (by kernel_rfl) (by kernel_rfl)
def txt7 : List UInt8 := [10, 50, 49, 32, 48, 48, 50, 49, 32, 48, 48, 50, 50, 32, 48, 48, 50, 51, 32, 48, 48, 50, 52, 32, 48, 48, 50, 53, 32, 48, 48, 50, 54, 32, 48, 48, 50, 55, 32, 48, 48, 50, 56, 32, 48, 48, 50, 57, 32, 48, 48, 50, 65, 32, 48, 48, 50, 66, 32, 48, 48, 50, 67, 32, 48, 48, 50, 68, 32, 48, 48, 50, 69, 32, 48, 48, 50, 70, 10, 51, 48, 32, 48, 48, 51, 48, 32, 48, 48, 51, 49, 32, 48, 48, 51, 50, 32, 48, 48, 51, 51, 32, 48, 48, 51, 52, 32, 48, 48, 51, 53, 32, 48, 48, 51, 54, 32, 48, 48, 51, 55, 32, 48, 48, 51, 56, 32, 48, 48, 51, 57, 32, 48, 48, 51, 65, 32, 48, 48, 51, 66, 32, 48, 48, 51, 67, 32, 48, 48, 51, 68, 32, 48, 48, 51, 69, 32, 48, 48, 51, 70, 10, 52, 48, 32, 209, 142, 32, 208, 176, 32, 208, 177, 32, 209, 134, 32, 208, 180, 32, 208, 181, 32, 209, 132, 32, 208, 179, 32, 209, 133, 32, 208, 184, 32, 208, 185, 32, 208, 186, 32, 208, 187, 32, 208, 188, 32, 208, 189, 32, 208, 190, 10, 53, 48, 32, 208, 191, 32, 209, 143, 32, 209, 128, 32, 209, 129, 32, 209, 130, 32, 209, 131, 32, 208, 182, 32, 208, 178, 32, 209, 140, 32, 209, 139, 32, 208, 183, 32, 209, 136, 32, 209, 141, 32, 209, 137, 32, 209, 135, 32, 209, 138, 10, 54, 48, 32, 208, 174, 32, 208, 144, 32, 208, 145, 32, 208, 166, 32, 208, 148, 32, 208, 149, 32, 208, 164, 32, 208, 147, 32, 208, 165, 32, 208, 152, 32, 208, 153, 32, 208, 154, 32, 208, 155, 32, 208, 156, 32, 208, 157, 32, 208, 158, 10, 55, 48, 32, 208, 159, 32, 208, 175, 32, 208, 160, 32, 208, 161, 32, 208, 162, 32, 208, 163, 32, 208, 150, 32, 208, 146, 32, 208, 172, 32, 208, 171, 32, 208, 151, 32, 208, 168, 32, 208, 173, 32, 208, 169, 32, 208, 167, 10]
def recs7 : List Ln := [⟨[], [], [], [], false, 0, 0, []⟩,
  ⟨[50, 49, 32, 48, 48, 50, 49, 32, 48, 48, 50, 50, 32, 48, 48, 50, 51, 32, 48, 48, 50, 52, 32, 48, 48, 50, 53, 32, 48, 48, 50, 54, 32, 48, 48, 50, 55, 32, 48, 48, 50, 56, 32, 48, 48, 50, 57, 32, 48, 48, 50, 65, 32, 48, 48, 50, 66, 32, 48, 48, 50, 67, 32, 48, 48, 50, 68, 32, 48, 48, 50, 69, 32, 48, 48, 50, 70], [50, 49, 32, 48, 48, 50, 49, 32, 48, 48, 50, 50, 32, 48, 48, 50, 51, 32, 48, 48, 50, 52, 32, 48, 48, 50, 53, 32, 48, 48, 50, 54, 32, 48, 48, 50, 55, 32, 48, 48, 50, 56, 32, 48, 48, 50, 57, 32, 48, 48, 50, 65, 32, 48, 48, 50, 66, 32, 48, 48, 50, 67, 32, 48, 48, 50, 68, 32, 48, 48, 50, 69, 32, 48, 48, 50, 70], [50, 49], [48, 48, 50, 49, 32, 48, 48, 50, 50, 32, 48, 48, 50, 51, 32, 48, 48, 50, 52, 32, 48, 48, 50, 53, 32, 48, 48, 50, 54, 32, 48, 48, 50, 55, 32, 48, 48, 50, 56, 32, 48, 48, 50, 57, 32, 48, 48, 50, 65, 32, 48, 48, 50, 66, 32, 48, 48, 50, 67, 32, 48, 48, 50, 68, 32, 48, 48, 50, 69, 32, 48, 48, 50, 70], true, 33, 14, [[48, 48, 50, 49], [48, 48, 50, 50], [48, 48, 50, 51], [48, 48, 50, 52], [48, 48, 50, 53], [48, 48, 50, 54], [48, 48, 50, 55], [48, 48, 50, 56], [48, 48, 50, 57], [48, 48, 50, 65], [48, 48, 50, 66], [48, 48, 50, 67], [48, 48, 50, 68], [48, 48, 50, 69], [48, 48, 50, 70]]⟩,
  ⟨[51, 48, 32, 48, 48, 51, 48, 32, 48, 48, 51, 49, 32, 48, 48, 51, 50, 32, 48, 48, 51, 51, 32, 48, 48, 51, 52, 32, 48, 48, 51, 53, 32, 48, 48, 51, 54, 32, 48, 48, 51, 55, 32, 48, 48, 51, 56, 32, 48, 48, 51, 57, 32, 48, 48, 51, 65, 32, 48, 48, 51, 66, 32, 48, 48, 51, 67, 32, 48, 48, 51, 68, 32, 48, 48, 51, 69, 32, 48, 48, 51, 70], [51, 48, 32, 48, 48, 51, 48, 32, 48, 48, 51, 49, 32, 48, 48, 51, 50, 32, 48, 48, 51, 51, 32, 48, 48, 51, 52, 32, 48, 48, 51, 53, 32, 48, 48, 51, 54, 32, 48, 48, 51, 55, 32, 48, 48, 51, 56, 32, 48, 48, 51, 57, 32, 48, 48, 51, 65, 32, 48, 48, 51, 66, 32, 48, 48, 51, 67, 32, 48, 48, 51, 68, 32, 48, 48, 51, 69, 32, 48, 48, 51, 70], [51, 48], [48, 48, 51, 48, 32, 48, 48, 51, 49, 32, 48, 48, 51, 50, 32, 48, 48, 51, 51, 32, 48, 48, 51, 52, 32, 48, 48, 51, 53, 32, 48, 48, 51, 54, 32, 48, 48, 51, 55, 32, 48, 48, 51, 56, 32, 48, 48, 51, 57, 32, 48, 48, 51, 65, 32, 48, 48, 51, 66, 32, 48, 48, 51, 67, 32, 48, 48, 51, 68, 32, 48, 48, 51, 69, 32, 48, 48, 51, 70], true, 48, 15, [[48, 48, 51, 48], [48, 48, 51, 49], [48, 48, 51, 50], [48, 48, 51, 51], [48, 48, 51, 52], [48, 48, 51, 53], [48, 48, 51, 54], [48, 48, 51, 55], [48, 48, 51, 56], [48, 48, 51, 57], [48, 48, 51, 65], [48, 48, 51, 66], [48, 48, 51, 67], [48, 48, 51, 68], [48, 48, 51, 69], [48, 48, 51, 70]]⟩,
  ⟨[52, 48, 32, 209, 142, 32, 208, 176, 32, 208, 177, 32, 209, 134, 32, 208, 180, 32, 208, 181, 32, 209, 132, 32, 208, 179, 32, 209, 133, 32, 208, 184, 32, 208, 185, 32, 208, 186, 32, 208, 187, 32, 208, 188, 32, 208, 189, 32, 208, 190], [52, 48, 32, 209, 142, 32, 208, 176, 32, 208, 177, 32, 209, 134, 32, 208, 180, 32, 208, 181, 32, 209, 132, 32, 208, 179, 32, 209, 133, 32, 208, 184, 32, 208, 185, 32, 208, 186, 32, 208, 187, 32, 208, 188, 32, 208, 189, 32, 208, 190], [52, 48], [209, 142, 32, 208, 176, 32, 208, 177, 32, 209, 134, 32, 208, 180, 32, 208, 181, 32, 209, 132, 32, 208, 179, 32, 209, 133, 32, 208, 184, 32, 208, 185, 32, 208, 186, 32, 208, 187, 32, 208, 188, 32, 208, 189, 32, 208, 190], true, 64, 15, [[209, 142], [208, 176], [208, 177], [209, 134], [208, 180], [208, 181], [209, 132], [208, 179], [209, 133], [208, 184], [208, 185], [208, 186], [208, 187], [208, 188], [208, 189], [208, 190]]⟩,
  ⟨[53, 48, 32, 208, 191, 32, 209, 143, 32, 209, 128, 32, 209, 129, 32, 209, 130, 32, 209, 131, 32, 208, 182, 32, 208, 178, 32, 209, 140, 32, 209, 139, 32, 208, 183, 32, 209, 136, 32, 209, 141, 32, 209, 137, 32, 209, 135, 32, 209, 138], [53, 48, 32, 208, 191, 32, 209, 143, 32, 209, 128, 32, 209, 129, 32, 209, 130, 32, 209, 131, 32, 208, 182, 32, 208, 178, 32, 209, 140, 32, 209, 139, 32, 208, 183, 32, 209, 136, 32, 209, 141, 32, 209, 137, 32, 209, 135, 32, 209, 138], [53, 48], [208, 191, 32, 209, 143, 32, 209, 128, 32, 209, 129, 32, 209, 130, 32, 209, 131, 32, 208, 182, 32, 208, 178, 32, 209, 140, 32, 209, 139, 32, 208, 183, 32, 209, 136, 32, 209, 141, 32, 209, 137, 32, 209, 135, 32, 209, 138], true, 80, 15, [[208, 191], [209, 143], [209, 128], [209, 129], [209, 130], [209, 131], [208, 182], [208, 178], [209, 140], [209, 139], [208, 183], [209, 136], [209, 141], [209, 137], [209, 135], [209, 138]]⟩,
  ⟨[54, 48, 32, 208, 174, 32, 208, 144, 32, 208, 145, 32, 208, 166, 32, 208, 148, 32, 208, 149, 32, 208, 164, 32, 208, 147, 32, 208, 165, 32, 208, 152, 32, 208, 153, 32, 208, 154, 32, 208, 155, 32, 208, 156, 32, 208, 157, 32, 208, 158], [54, 48, 32, 208, 174, 32, 208, 144, 32, 208, 145, 32, 208, 166, 32, 208, 148, 32, 208, 149, 32, 208, 164, 32, 208, 147, 32, 208, 165, 32, 208, 152, 32, 208, 153, 32, 208, 154, 32, 208, 155, 32, 208, 156, 32, 208, 157, 32, 208, 158], [54, 48], [208, 174, 32, 208, 144, 32, 208, 145, 32, 208, 166, 32, 208, 148, 32, 208, 149, 32, 208, 164, 32, 208, 147, 32, 208, 165, 32, 208, 152, 32, 208, 153, 32, 208, 154, 32, 208, 155, 32, 208, 156, 32, 208, 157, 32, 208, 158], true, 96, 15, [[208, 174], [208, 144], [208, 145], [208, 166], [208, 148], [208, 149], [208, 164], [208, 147], [208, 165], [208, 152], [208, 153], [208, 154], [208, 155], [208, 156], [208, 157], [208, 158]]⟩,
  ⟨[55, 48, 32, 208, 159, 32, 208, 175, 32, 208, 160, 32, 208, 161, 32, 208, 162, 32, 208, 163, 32, 208, 150, 32, 208, 146, 32, 208, 172, 32, 208, 171, 32, 208, 151, 32, 208, 168, 32, 208, 173, 32, 208, 169, 32, 208, 167], [55, 48, 32, 208, 159, 32, 208, 175, 32, 208, 160, 32, 208, 161, 32, 208, 162, 32, 208, 163, 32, 208, 150, 32, 208, 146, 32, 208, 172, 32, 208, 171, 32, 208, 151, 32, 208, 168, 32, 208, 173, 32, 208, 169, 32, 208, 167], [55, 48], [208, 159, 32, 208, 175, 32, 208, 160, 32, 208, 161, 32, 208, 162, 32, 208, 163, 32, 208, 150, 32, 208, 146, 32, 208, 172, 32, 208, 171, 32, 208, 151, 32, 208, 168, 32, 208, 173, 32, 208, 169, 32, 208, 167], true, 112, 14, [[208, 159], [208, 175], [208, 160], [208, 161], [208, 162], [208, 163], [208, 150], [208, 146], [208, 172], [208, 171], [208, 151], [208, 168], [208, 173], [208, 169], [208, 167]]⟩,
  ⟨[], [], [], [], false, 0, 0, []⟩]
noncomputable def S7 : ByteArray := strAt Tryz.f99 5
theorem good7 : Good S7 tab7 recs7 := good_of (T := txt7) (by kernel_rfl) (by kernel_rfl) (by kernel_rfl) (by kernel_rfl) (by kernel_rfl) (by kernel_rfl) (by kernel_rfl)
def txt8 : List UInt8 := [10, 52, 48, 32, 210, 145, 32, 209, 146, 32, 209, 147, 32, 209, 148, 32, 209, 145, 32, 209, 149, 32, 209, 150, 32, 209, 151, 32, 209, 152, 32, 209, 153, 32, 209, 154, 32, 209, 155, 32, 209, 156, 32, 209, 158, 32, 209, 159, 32, 45, 10, 53, 48, 32, 209, 163, 32, 209, 179, 32, 209, 181, 32, 209, 171, 32, 45, 32, 45, 32, 45, 32, 45, 32, 45, 32, 45, 32, 45, 32, 48, 48, 53, 66, 32, 45, 32, 48, 48, 53, 68, 32, 45, 32, 48, 48, 53, 70, 10, 54, 48, 32, 210, 144, 32, 208, 130, 32, 208, 131, 32, 208, 132, 32, 208, 129, 32, 208, 133, 32, 208, 134, 32, 208, 135, 32, 208, 136, 32, 208, 137, 32, 208, 138, 32, 208, 139, 32, 208, 140, 32, 208, 142, 32, 208, 143, 32, 208, 170, 10, 55, 48, 32, 209, 162, 32, 209, 178, 32, 209, 180, 32, 209, 170, 10]
def recs8 : List Ln := [⟨[], [], [], [], false, 0, 0, []⟩,
  ⟨[52, 48, 32, 210, 145, 32, 209, 146, 32, 209, 147, 32, 209, 148, 32, 209, 145, 32, 209, 149, 32, 209, 150, 32, 209, 151, 32, 209, 152, 32, 209, 153, 32, 209, 154, 32, 209, 155, 32, 209, 156, 32, 209, 158, 32, 209, 159, 32, 45], [52, 48, 32, 210, 145, 32, 209, 146, 32, 209, 147, 32, 209, 148, 32, 209, 145, 32, 209, 149, 32, 209, 150, 32, 209, 151, 32, 209, 152, 32, 209, 153, 32, 209, 154, 32, 209, 155, 32, 209, 156, 32, 209, 158, 32, 209, 159, 32, 45], [52, 48], [210, 145, 32, 209, 146, 32, 209, 147, 32, 209, 148, 32, 209, 145, 32, 209, 149, 32, 209, 150, 32, 209, 151, 32, 209, 152, 32, 209, 153, 32, 209, 154, 32, 209, 155, 32, 209, 156, 32, 209, 158, 32, 209, 159, 32, 45], true, 64, 15, [[210, 145], [209, 146], [209, 147], [209, 148], [209, 145], [209, 149], [209, 150], [209, 151], [209, 152], [209, 153], [209, 154], [209, 155], [209, 156], [209, 158], [209, 159], [45]]⟩,
  ⟨[53, 48, 32, 209, 163, 32, 209, 179, 32, 209, 181, 32, 209, 171, 32, 45, 32, 45, 32, 45, 32, 45, 32, 45, 32, 45, 32, 45, 32, 48, 48, 53, 66, 32, 45, 32, 48, 48, 53, 68, 32, 45, 32, 48, 48, 53, 70], [53, 48, 32, 209, 163, 32, 209, 179, 32, 209, 181, 32, 209, 171, 32, 45, 32, 45, 32, 45, 32, 45, 32, 45, 32, 45, 32, 45, 32, 48, 48, 53, 66, 32, 45, 32, 48, 48, 53, 68, 32, 45, 32, 48, 48, 53, 70], [53, 48], [209, 163, 32, 209, 179, 32, 209, 181, 32, 209, 171, 32, 45, 32, 45, 32, 45, 32, 45, 32, 45, 32, 45, 32, 45, 32, 48, 48, 53, 66, 32, 45, 32, 48, 48, 53, 68, 32, 45, 32, 48, 48, 53, 70], true, 80, 15, [[209, 163], [209, 179], [209, 181], [209, 171], [45], [45], [45], [45], [45], [45], [45], [48, 48, 53, 66], [45], [48, 48, 53, 68], [45], [48, 48, 53, 70]]⟩,
  ⟨[54, 48, 32, 210, 144, 32, 208, 130, 32, 208, 131, 32, 208, 132, 32, 208, 129, 32, 208, 133, 32, 208, 134, 32, 208, 135, 32, 208, 136, 32, 208, 137, 32, 208, 138, 32, 208, 139, 32, 208, 140, 32, 208, 142, 32, 208, 143, 32, 208, 170], [54, 48, 32, 210, 144, 32, 208, 130, 32, 208, 131, 32, 208, 132, 32, 208, 129, 32, 208, 133, 32, 208, 134, 32, 208, 135, 32, 208, 136, 32, 208, 137, 32, 208, 138, 32, 208, 139, 32, 208, 140, 32, 208, 142, 32, 208, 143, 32, 208, 170], [54, 48], [210, 144, 32, 208, 130, 32, 208, 131, 32, 208, 132, 32, 208, 129, 32, 208, 133, 32, 208, 134, 32, 208, 135, 32, 208, 136, 32, 208, 137, 32, 208, 138, 32, 208, 139, 32, 208, 140, 32, 208, 142, 32, 208, 143, 32, 208, 170], true, 96, 15, [[210, 144], [208, 130], [208, 131], [208, 132], [208, 129], [208, 133], [208, 134], [208, 135], [208, 136], [208, 137], [208, 138], [208, 139], [208, 140], [208, 142], [208, 143], [208, 170]]⟩,
  ⟨[55, 48, 32, 209, 162, 32, 209, 178, 32, 209, 180, 32, 209, 170], [55, 48, 32, 209, 162, 32, 209, 178, 32, 209, 180, 32, 209, 170], [55, 48], [209, 162, 32, 209, 178, 32, 209, 180, 32, 209, 170], true, 112, 3, [[209, 162], [209, 178], [209, 180], [209, 170]]⟩,
  ⟨[], [], [], [], false, 0, 0, []⟩]
noncomputable def S8 : ByteArray := strAt Tryz.f99 6
theorem good8 : Good S8 tab8 recs8 := good_of (T := txt8) (by kernel_rfl) (by kernel_rfl) (by kernel_rfl) (by kernel_rfl) (by kernel_rfl) (by kernel_rfl) (by kernel_rfl)
end Go.Proofs.YtipigfgnpfhdbaaGreatDoor.U
namespace Go.Proofs.YtipigfgnpfhdbaaGreatDoor.U
open Go.Shelf Go.RowKit
set_option linter.unusedVariables false
def lays163_ren : Go.Shelf.Ren := ⟨fun | 163 => 132 | 237 => 152 | 199 => 139 | 238 => 153 | 272 => 164 | 261 => 157 | 273 => 165 | 197 => 138 | 315 => 175 | 311 => 172 | 312 => 173 | 271 => 176 | 260 => 156 | 120 => 184 | n => n, fun | 9 => 9 | 37 => 176 | 3 => 3 | 0 => 0 | 5 => 5 | 4 => 4 | 40 => 27 | 119 => 164 | 21 => 21 | 51 => 110 | 141 => 183 | 105 => 165 | 196 => 195 | 193 => 192 | 198 => 197 | 49 => 28 | 194 => 193 | 201 => 200 | 226 => 210 | 46 => 79 | 227 => 211 | 139 => 191 | 138 => 190 | n => n, fun | 0 => 3 | 6 => 5 | 3 => 6 | 4 => 7 | n => n⟩
theorem lays163 : Go.Proofs.Lays.n163 Tryz.prog lays163_ren := {
  mixed := by kernel_rfl
  f120 := Tryz.func184.trans (congrArg some (by kernel_rfl))
  f163 := Tryz.func132.trans (congrArg some (by kernel_rfl))
  f197 := Tryz.func138.trans (congrArg some (by kernel_rfl))
  f199 := Tryz.func139.trans (congrArg some (by kernel_rfl))
  f237 := Tryz.func152.trans (congrArg some (by kernel_rfl))
  f238 := Tryz.func153.trans (congrArg some (by kernel_rfl))
  f260 := Tryz.func156.trans (congrArg some (by kernel_rfl))
  f261 := Tryz.func157.trans (congrArg some (by kernel_rfl))
  f271 := Tryz.func176.trans (congrArg some (by kernel_rfl))
  f272 := Tryz.func164.trans (congrArg some (by kernel_rfl))
  f273 := Tryz.func165.trans (congrArg some (by kernel_rfl))
  f311 := Tryz.func172.trans (congrArg some (by kernel_rfl))
  f312 := Tryz.func173.trans (congrArg some (by kernel_rfl))
  f315 := Tryz.func175.trans (congrArg some (by kernel_rfl))
  t0 := Tryz.underlying0
  a0 := Tryz.isAgg0
  z0 := Tryz.sizeOf0
  v0 := Tryz.zeroValue0
  t3 := Tryz.underlying3
  a3 := Tryz.isAgg3
  z3 := Tryz.sizeOf3
  v3 := Tryz.zeroValue3
  t4 := Tryz.underlying4
  a4 := Tryz.isAgg4
  z4 := Tryz.sizeOf4
  v4 := Tryz.zeroValue4
  t5 := Tryz.underlying5
  a5 := Tryz.isAgg5
  z5 := Tryz.sizeOf5
  v5 := Tryz.zeroValue5
  t9 := Tryz.underlying9
  a9 := Tryz.isAgg9
  z9 := Tryz.sizeOf9
  v9 := Tryz.zeroValue9
  t21 := Tryz.underlying21
  a21 := Tryz.isAgg21
  z21 := Tryz.sizeOf21
  v21 := Tryz.zeroValue21
  t37 := Tryz.underlying176
  a37 := Tryz.isAgg176
  z37 := Tryz.sizeOf176
  v37 := Tryz.zeroValue176
  t40 := Tryz.underlying27
  a40 := Tryz.isAgg27
  z40 := Tryz.sizeOf27
  v40 := Tryz.zeroValue27
  t46 := Tryz.underlying79
  a46 := Tryz.isAgg79
  z46 := Tryz.sizeOf79
  v46 := Tryz.zeroValue79
  t49 := Tryz.underlying28
  a49 := Tryz.isAgg28
  z49 := Tryz.sizeOf28
  v49 := Tryz.zeroValue28
  t51 := Tryz.underlying110
  a51 := Tryz.isAgg110
  z51 := Tryz.sizeOf110
  v51 := Tryz.zeroValue110
  t105 := Tryz.underlying165
  a105 := Tryz.isAgg165
  z105 := Tryz.sizeOf165
  v105 := Tryz.zeroValue165
  t119 := Tryz.underlying164
  a119 := Tryz.isAgg164
  z119 := Tryz.sizeOf164
  t138 := Tryz.underlying190
  a138 := Tryz.isAgg190
  z138 := Tryz.sizeOf190
  v138 := Tryz.zeroValue190
  t139 := Tryz.underlying191
  a139 := Tryz.isAgg191
  z139 := Tryz.sizeOf191
  v139 := Tryz.zeroValue191
  t141 := Tryz.underlying183
  a141 := Tryz.isAgg183
  z141 := Tryz.sizeOf183
  v141 := Tryz.zeroValue183
  t193 := Tryz.underlying192
  a193 := Tryz.isAgg192
  z193 := Tryz.sizeOf192
  v193 := Tryz.zeroValue192
  t194 := Tryz.underlying193
  a194 := Tryz.isAgg193
  z194 := Tryz.sizeOf193
  v194 := Tryz.zeroValue193
  t196 := Tryz.underlying195
  a196 := Tryz.isAgg195
  z196 := Tryz.sizeOf195
  v196 := Tryz.zeroValue195
  t198 := Tryz.underlying197
  a198 := Tryz.isAgg197
  z198 := Tryz.sizeOf197
  v198 := Tryz.zeroValue197
  t201 := Tryz.underlying200
  a201 := Tryz.isAgg200
  z201 := Tryz.sizeOf200
  v201 := Tryz.zeroValue200
  t226 := Tryz.underlying210
  a226 := Tryz.isAgg210
  z226 := Tryz.sizeOf210
  v226 := Tryz.zeroValue210
  t227 := Tryz.underlying211
  a227 := Tryz.isAgg211
  z227 := Tryz.sizeOf211
  v227 := Tryz.zeroValue211
  g0 := by kernel_rfl
  g3 := by kernel_rfl
  g4 := by kernel_rfl
  g6 := by kernel_rfl }
theorem space_extra : Space.Extra Tryz.prog lays163_ren := {
  gNamed := by kernel_rfl }
def lays145_ren : Go.Shelf.Ren := ⟨fun | 145 => 131 | 220 => 151 | 219 => 155 | 217 => 168 | 225 => 169 | 224 => 170 | 267 => 171 | 266 => 182 | 314 => 183 | n => n, fun | 9 => 9 | 4 => 4 | 59 => 158 | 3 => 3 | 5 => 5 | 46 => 79 | 146 => 208 | 51 => 110 | n => n, fun | 1 => 4 | n => n⟩
theorem lays145 : Go.Proofs.Lays.n145 Tryz.prog lays145_ren := {
  mixed := by kernel_rfl
  f145 := Tryz.func131.trans (congrArg some (by kernel_rfl))
  f217 := Tryz.func168.trans (congrArg some (by kernel_rfl))
  f219 := Tryz.func155.trans (congrArg some (by kernel_rfl))
  f220 := Tryz.func151.trans (congrArg some (by kernel_rfl))
  f224 := Tryz.func170.trans (congrArg some (by kernel_rfl))
  f225 := Tryz.func169.trans (congrArg some (by kernel_rfl))
  f266 := Tryz.func182.trans (congrArg some (by kernel_rfl))
  f267 := Tryz.func171.trans (congrArg some (by kernel_rfl))
  f314 := Tryz.func183.trans (congrArg some (by kernel_rfl))
  t3 := Tryz.underlying3
  a3 := Tryz.isAgg3
  z3 := Tryz.sizeOf3
  v3 := Tryz.zeroValue3
  t4 := Tryz.underlying4
  a4 := Tryz.isAgg4
  z4 := Tryz.sizeOf4
  v4 := Tryz.zeroValue4
  t5 := Tryz.underlying5
  a5 := Tryz.isAgg5
  z5 := Tryz.sizeOf5
  v5 := Tryz.zeroValue5
  t9 := Tryz.underlying9
  a9 := Tryz.isAgg9
  z9 := Tryz.sizeOf9
  v9 := Tryz.zeroValue9
  t46 := Tryz.underlying79
  a46 := Tryz.isAgg79
  z46 := Tryz.sizeOf79
  v46 := Tryz.zeroValue79
  t51 := Tryz.underlying110
  a51 := Tryz.isAgg110
  z51 := Tryz.sizeOf110
  v51 := Tryz.zeroValue110
  t59 := Tryz.underlying158
  a59 := Tryz.isAgg158
  z59 := Tryz.sizeOf158
  v59 := Tryz.zeroValue158
  t146 := Tryz.underlying208
  a146 := Tryz.isAgg208
  z146 := Tryz.sizeOf208
  v146 := Tryz.zeroValue208
  g1 := by kernel_rfl }
def lays138_ren : Go.Shelf.Ren := ⟨fun | 138 => 122 | 195 => 134 | 218 => 135 | 143 => 136 | 219 => 155 | 217 => 168 | 225 => 169 | 224 => 170 | 267 => 171 | 266 => 182 | 314 => 183 | n => n, fun | 9 => 9 | 3 => 3 | 4 => 4 | 5 => 5 | 0 => 0 | 46 => 79 | 146 => 208 | 51 => 110 | n => n, fun | 1 => 4 | n => n⟩
theorem lays138 : Go.Proofs.Lays.n138 Tryz.prog lays138_ren := {
  mixed := by kernel_rfl
  f138 := Tryz.func122.trans (congrArg some (by kernel_rfl))
  f143 := Tryz.func136.trans (congrArg some (by kernel_rfl))
  f195 := Tryz.func134.trans (congrArg some (by kernel_rfl))
  f217 := Tryz.func168.trans (congrArg some (by kernel_rfl))
  f218 := Tryz.func135.trans (congrArg some (by kernel_rfl))
  f219 := Tryz.func155.trans (congrArg some (by kernel_rfl))
  f224 := Tryz.func170.trans (congrArg some (by kernel_rfl))
  f225 := Tryz.func169.trans (congrArg some (by kernel_rfl))
  f266 := Tryz.func182.trans (congrArg some (by kernel_rfl))
  f267 := Tryz.func171.trans (congrArg some (by kernel_rfl))
  f314 := Tryz.func183.trans (congrArg some (by kernel_rfl))
  t0 := Tryz.underlying0
  a0 := Tryz.isAgg0
  z0 := Tryz.sizeOf0
  v0 := Tryz.zeroValue0
  t3 := Tryz.underlying3
  a3 := Tryz.isAgg3
  z3 := Tryz.sizeOf3
  v3 := Tryz.zeroValue3
  t4 := Tryz.underlying4
  a4 := Tryz.isAgg4
  z4 := Tryz.sizeOf4
  v4 := Tryz.zeroValue4
  t5 := Tryz.underlying5
  a5 := Tryz.isAgg5
  z5 := Tryz.sizeOf5
  v5 := Tryz.zeroValue5
  t9 := Tryz.underlying9
  a9 := Tryz.isAgg9
  z9 := Tryz.sizeOf9
  v9 := Tryz.zeroValue9
  t46 := Tryz.underlying79
  a46 := Tryz.isAgg79
  z46 := Tryz.sizeOf79
  v46 := Tryz.zeroValue79
  t51 := Tryz.underlying110
  a51 := Tryz.isAgg110
  z51 := Tryz.sizeOf110
  v51 := Tryz.zeroValue110
  t146 := Tryz.underlying208
  a146 := Tryz.isAgg208
  z146 := Tryz.sizeOf208
  v146 := Tryz.zeroValue208
  g1 := by kernel_rfl }
def lays199_ren : Go.Shelf.Ren := ⟨fun | 199 => 139 | 261 => 157 | 311 => 172 | 312 => 173 | n => n, fun | 21 => 21 | 4 => 4 | 51 => 110 | 141 => 183 | 0 => 0 | 196 => 195 | 193 => 192 | 3 => 3 | 198 => 197 | 49 => 28 | 194 => 193 | 201 => 200 | 226 => 210 | 46 => 79 | 227 => 211 | n => n, fun | 6 => 5 | n => n⟩
theorem lays199 : Go.Proofs.Lays.n199 Tryz.prog lays199_ren := {
  mixed := by kernel_rfl
  f199 := Tryz.func139.trans (congrArg some (by kernel_rfl))
  f261 := Tryz.func157.trans (congrArg some (by kernel_rfl))
  f311 := Tryz.func172.trans (congrArg some (by kernel_rfl))
  f312 := Tryz.func173.trans (congrArg some (by kernel_rfl))
  t0 := Tryz.underlying0
  a0 := Tryz.isAgg0
  z0 := Tryz.sizeOf0
  v0 := Tryz.zeroValue0
  t3 := Tryz.underlying3
  a3 := Tryz.isAgg3
  z3 := Tryz.sizeOf3
  v3 := Tryz.zeroValue3
  t4 := Tryz.underlying4
  a4 := Tryz.isAgg4
  z4 := Tryz.sizeOf4
  v4 := Tryz.zeroValue4
  t21 := Tryz.underlying21
  a21 := Tryz.isAgg21
  z21 := Tryz.sizeOf21
  v21 := Tryz.zeroValue21
  t46 := Tryz.underlying79
  a46 := Tryz.isAgg79
  z46 := Tryz.sizeOf79
  v46 := Tryz.zeroValue79
  t49 := Tryz.underlying28
  a49 := Tryz.isAgg28
  z49 := Tryz.sizeOf28
  v49 := Tryz.zeroValue28
  t51 := Tryz.underlying110
  a51 := Tryz.isAgg110
  z51 := Tryz.sizeOf110
  v51 := Tryz.zeroValue110
  t141 := Tryz.underlying183
  a141 := Tryz.isAgg183
  z141 := Tryz.sizeOf183
  v141 := Tryz.zeroValue183
  t193 := Tryz.underlying192
  a193 := Tryz.isAgg192
  z193 := Tryz.sizeOf192
  v193 := Tryz.zeroValue192
  t194 := Tryz.underlying193
  a194 := Tryz.isAgg193
  z194 := Tryz.sizeOf193
  v194 := Tryz.zeroValue193
  t196 := Tryz.underlying195
  a196 := Tryz.isAgg195
  z196 := Tryz.sizeOf195
  v196 := Tryz.zeroValue195
  t198 := Tryz.underlying197
  a198 := Tryz.isAgg197
  z198 := Tryz.sizeOf197
  v198 := Tryz.zeroValue197
  t201 := Tryz.underlying200
  a201 := Tryz.isAgg200
  z201 := Tryz.sizeOf200
  v201 := Tryz.zeroValue200
  t226 := Tryz.underlying210
  a226 := Tryz.isAgg210
  z226 := Tryz.sizeOf210
  v226 := Tryz.zeroValue210
  t227 := Tryz.underlying211
  a227 := Tryz.isAgg211
  z227 := Tryz.sizeOf211
  v227 := Tryz.zeroValue211
  g6 := by kernel_rfl }
def lays197_ren : Go.Shelf.Ren := ⟨fun | 197 => 138 | 260 => 156 | n => n, fun | 9 => 9 | 21 => 21 | 3 => 3 | 4 => 4 | 5 => 5 | 105 => 165 | 119 => 164 | 0 => 0 | 46 => 79 | 139 => 191 | 138 => 190 | n => n, fun | 3 => 6 | 4 => 7 | n => n⟩
theorem lays197 : Go.Proofs.Lays.n197 Tryz.prog lays197_ren := {
  mixed := by kernel_rfl
  f197 := Tryz.func138.trans (congrArg some (by kernel_rfl))
  f260 := Tryz.func156.trans (congrArg some (by kernel_rfl))
  t0 := Tryz.underlying0
  a0 := Tryz.isAgg0
  z0 := Tryz.sizeOf0
  v0 := Tryz.zeroValue0
  t3 := Tryz.underlying3
  a3 := Tryz.isAgg3
  z3 := Tryz.sizeOf3
  v3 := Tryz.zeroValue3
  t4 := Tryz.underlying4
  a4 := Tryz.isAgg4
  z4 := Tryz.sizeOf4
  v4 := Tryz.zeroValue4
  t5 := Tryz.underlying5
  a5 := Tryz.isAgg5
  z5 := Tryz.sizeOf5
  v5 := Tryz.zeroValue5
  t9 := Tryz.underlying9
  a9 := Tryz.isAgg9
  z9 := Tryz.sizeOf9
  v9 := Tryz.zeroValue9
  t21 := Tryz.underlying21
  a21 := Tryz.isAgg21
  z21 := Tryz.sizeOf21
  v21 := Tryz.zeroValue21
  t46 := Tryz.underlying79
  a46 := Tryz.isAgg79
  z46 := Tryz.sizeOf79
  v46 := Tryz.zeroValue79
  t105 := Tryz.underlying165
  a105 := Tryz.isAgg165
  z105 := Tryz.sizeOf165
  v105 := Tryz.zeroValue165
  t119 := Tryz.underlying164
  a119 := Tryz.isAgg164
  z119 := Tryz.sizeOf164
  t138 := Tryz.underlying190
  a138 := Tryz.isAgg190
  z138 := Tryz.sizeOf190
  v138 := Tryz.zeroValue190
  t139 := Tryz.underlying191
  a139 := Tryz.isAgg191
  z139 := Tryz.sizeOf191
  v139 := Tryz.zeroValue191
  g3 := by kernel_rfl
  g4 := by kernel_rfl }
def lays143_ren : Go.Shelf.Ren := ⟨fun | 143 => 136 | 219 => 155 | 217 => 168 | 225 => 169 | 224 => 170 | 267 => 171 | 266 => 182 | 314 => 183 | n => n, fun | 9 => 9 | 3 => 3 | 4 => 4 | 5 => 5 | 46 => 79 | 146 => 208 | 51 => 110 | n => n, fun | 1 => 4 | n => n⟩
theorem lays143 : Go.Proofs.Lays.n143 Tryz.prog lays143_ren := {
  mixed := by kernel_rfl
  f143 := Tryz.func136.trans (congrArg some (by kernel_rfl))
  f217 := Tryz.func168.trans (congrArg some (by kernel_rfl))
  f219 := Tryz.func155.trans (congrArg some (by kernel_rfl))
  f224 := Tryz.func170.trans (congrArg some (by kernel_rfl))
  f225 := Tryz.func169.trans (congrArg some (by kernel_rfl))
  f266 := Tryz.func182.trans (congrArg some (by kernel_rfl))
  f267 := Tryz.func171.trans (congrArg some (by kernel_rfl))
  f314 := Tryz.func183.trans (congrArg some (by kernel_rfl))
  t3 := Tryz.underlying3
  a3 := Tryz.isAgg3
  z3 := Tryz.sizeOf3
  v3 := Tryz.zeroValue3
  t4 := Tryz.underlying4
  a4 := Tryz.isAgg4
  z4 := Tryz.sizeOf4
  v4 := Tryz.zeroValue4
  t5 := Tryz.underlying5
  a5 := Tryz.isAgg5
  z5 := Tryz.sizeOf5
  v5 := Tryz.zeroValue5
  t9 := Tryz.underlying9
  a9 := Tryz.isAgg9
  z9 := Tryz.sizeOf9
  v9 := Tryz.zeroValue9
  t46 := Tryz.underlying79
  a46 := Tryz.isAgg79
  z46 := Tryz.sizeOf79
  v46 := Tryz.zeroValue79
  t51 := Tryz.underlying110
  a51 := Tryz.isAgg110
  z51 := Tryz.sizeOf110
  v51 := Tryz.zeroValue110
  t146 := Tryz.underlying208
  a146 := Tryz.isAgg208
  z146 := Tryz.sizeOf208
  v146 := Tryz.zeroValue208
  g1 := by kernel_rfl }
open Go.RowKit Go.Lib in
theorem strings_TrimSpace_any (s : ByteArray) (w : World) (hs : s.size ≤ 9223372036854775807) (htab : Lib.TabIs Tryz.prog w "strings.asciiSpace" .u8 Lib.asciiSpaceTab) (hU8 : Lib.Utf8Tabs 6 7 w) (hWS : Lib.WhiteTab 5 w) :
    Calls Tryz.prog 132 #[.string s] w fun e w' => e = .returned (.string ⟨(Lib.trimSpaceD s.data.toList).toArray⟩) ∧ Below w.heap.size w w' := Any.strings_TrimSpace_any lays163 space_extra s w hs htab hU8 hWS
open Go.RowKit Go.Lib in
theorem strings_Cut (s sep : ByteArray) (m : Int) (w : World) (hs : s.size < 4294967281) (hm : w.cell? ⟨4, 0, none⟩ = some (.int .i64 m)) :
    Calls Tryz.prog 131 #[.string s, .string sep] w fun e w' => e = .returned (.tuple #[.string ⟨(Lib.cut s.data.toList sep.data.toList).1.toArray⟩, .string ⟨(Lib.cut s.data.toList sep.data.toList).2.1.toArray⟩, .bool (Lib.cut s.data.toList sep.data.toList).2.2]) ∧ ∃ n, w' = w.drewN n := Any.strings_Cut lays145 s sep m w hs hm
open Go.RowKit Go.Lib in
theorem strings_Count_one (s : ByteArray) (c : UInt8) (w : World) :
    Calls Tryz.prog 122 #[.string s, .string ⟨#[c]⟩] w fun e w' => e = .returned (.int .i64 (Lib.countByte s.data.toList c)) ∧ w' = w := Any.strings_Count_one lays138 s c w
open Go.RowKit Go.Lib in
theorem unicode_IsSpace_any (r : Int) (w : World) (hlo : -2147483648 ≤ r) (hhi : r ≤ 2147483647) (hW : Lib.WhiteTab 5 w) :
    Calls Tryz.prog 139 #[.int .i32 r] w fun e w' => e = .returned (.bool (Lib.isSpaceZ r)) ∧ Below w.heap.size w w' := Any.unicode_IsSpace_any lays199 r w hlo hhi hW
open Go.RowKit Go.Lib in
theorem utf8_DecodeRuneInString (s : ByteArray) (w : World) (hT : Lib.Utf8Tabs 6 7 w) :
    Calls Tryz.prog 138 #[.string s] w fun e w' => e = .returned (.tuple #[.int .i32 (Lib.decodeGo s).1, .int .i64 (Lib.decodeGo s).2]) ∧ Below w.heap.size w w' := Any.utf8_DecodeRuneInString lays197 s w hT
open Go.RowKit Go.Lib in
theorem strings_Index_one (s : ByteArray) (c : UInt8) (w : World) :
    Calls Tryz.prog 136 #[.string s, .string ⟨#[c]⟩] w fun e w' => e = .returned (.int .i64 (Lib.indexByte s.data.toList c)) ∧ w' = w := Any.strings_Index_one lays143 s c w

/-- The library's tables are as they are laid. -/
def Tz (w : World) : Prop := Lib.TabIs Tryz.prog w "strings.asciiSpace" .u8 Lib.asciiSpaceTab ∧ Lib.Utf8Tabs 6 7 w ∧ Lib.WhiteTab 5 w ∧ ∃ m, w.cell? ⟨4, 0, none⟩ = some (.int .i64 m)
theorem gSp_is : Tryz.prog.globalNamed "strings.asciiSpace" = some 3 := by kernel_rfl
theorem Tz.bel {w w' : World} (h : Tz w) (hb : Bel w w') : Tz w' := by
  obtain ⟨h1, h2, h3, m, h4⟩ := h
  refine ⟨?_, Utf8Tabs_below h2 hb, WhiteTab_below h3 hb, m, (Below.cell hb (p := ⟨4, 0, none⟩) (cell_block h4)).trans h4⟩
  have hg := gSp_is
  unfold Lib.TabIs World.var? at h1 ⊢
  rw [hg] at h1 ⊢
  simp only [Option.bind_some] at h1 ⊢
  have hlt : 3 < w.heap.size := by
    rcases Nat.lt_or_ge 3 w.heap.size with h | h
    · exact h
    · rw [Array.getElem?_eq_none h] at h1
      cases h1
  rw [hb.block 3 hlt]
  exact h1
end Go.Proofs.YtipigfgnpfhdbaaGreatDoor.U
namespace Go.Proofs.YtipigfgnpfhdbaaGreatDoor.U
open Go.RowKit Go.Shelf
set_option linter.unusedVariables false
attribute [local go_sem] Oper.semAt_some

theorem cut_str (T : List UInt8) (a b : Nat) : (⟨T.toArray⟩ : ByteArray).extract a b = ⟨((T.take b).drop a).toArray⟩ := by
  rw [ByteArray.extract_mk]
  simp [List.drop_take]
/-- What is left to be told. -/
def leftIn (b : Nat) (w : World) : Nat := match w.cell? ⟨b, 0, none⟩ with
  | some (.string s) => s.size
  | _ => 0
theorem leftIn_is {b : Nat} {w : World} {T : List UInt8} (h : Boxed w b 9 (.string ⟨T.toArray⟩)) : leftIn b w = T.length := by
  unfold leftIn
  rw [h.cell]
  exact size_of T
theorem splB_one {c : UInt8} {T p : List UInt8} (h : splB c T [p] = true) : Lib.indexByte T c = -1 ∧ T = p := by
  simpa [splB] using h
theorem splB_more {c : UInt8} {T p q : List UInt8} {r : List (List UInt8)} (h : splB c T (p :: q :: r) = true) : Lib.indexByte T c = (p.length : Int) ∧ T.take p.length = p ∧ splB c (T.drop (p.length + 1)) (q :: r) = true := by
  simpa [splB, Bool.and_eq_true, and_assoc] using h
theorem index_lt {c : UInt8} : ∀ {T : List UInt8} {n : Nat}, Lib.indexByte T c = (n : Int) → n < T.length
  | [], n, h => by simp [Lib.indexByte] at h
  | b :: l, n, h => by
    unfold Lib.indexByte at h
    split at h
    · simp; omega
    · split at h
      · omega
      · cases n with
        | zero => have := Lib.indexByte_ge l c; rename_i h1; simp at h1; omega
        | succ m =>
          have := index_lt (c := c) (T := l) (n := m) (by omega)
          simp; omega

def SplRel (c : UInt8) (ps : List (List UInt8)) (b : Nat) (J : List (List UInt8) → World → Prop) (wr : World) : Prop :=
  ∃ pre rest T, ps = pre ++ rest ∧ splB c T rest = true ∧ Boxed wr b 9 (.string ⟨T.toArray⟩) ∧ Boxed wr (b + 1) 9 (.string ⟨#[c]⟩) ∧ Boxed wr (b + 2) 3 (.int .i64 0) ∧ J pre wr ∧ T.length < 4000

set_option maxRecDepth 100000 in
set_option maxHeartbeats 2000000 in
theorem split_in (c : UInt8) (S : List UInt8) (ps : List (List UInt8)) (hs : splB c S ps = true) (hsz : S.length < 4000) (b : Nat) (Wz : World) (Z : World → Prop) (hb : b + 3 ≤ Wz.heap.size)
    (b0 : Boxed Wz b 9 (.string ⟨S.toArray⟩)) (b1 : Boxed Wz (b + 1) 9 (.string ⟨#[c]⟩)) (b2 : Boxed Wz (b + 2) 3 (.int .i64 0)) :
    Seq Tryz.prog (fun x : List UInt8 => #[.string ⟨x.toArray⟩]) ps b (b + 3) 150 #[] #[.pointer (some ⟨b + 1, 0, none⟩), .pointer (some ⟨b, 0, none⟩), .pointer (some ⟨b + 2, 0, none⟩)] Z Wz := by
  intro l E J Jx hZ hJ hJx hY W hl hlE hE hW h0
  have hsame : ∀ j, b ≤ j → j < b + 3 → W.heap[j]? = Wz.heap[j]? := hW
  have B0 : Boxed W b 9 (.string ⟨S.toArray⟩) := (hsame b (by omega) (by omega)).trans b0
  have B1 : Boxed W (b + 1) 9 (.string ⟨#[c]⟩) := (hsame (b + 1) (by omega) (by omega)).trans b1
  have B2 : Boxed W (b + 2) 3 (.int .i64 0) := (hsame (b + 2) (by omega) (by omega)).trans b2
  have HS := Lib.hid hs
  have H0 := Lib.hid h0
  have HJ := Lib.hid hJ
  have HY := Lib.hid hY
  have HE := Lib.hid (show b + 3 ≤ E by omega)
  have k1 := B1.cell
  have hq : ((⟨#[c]⟩ : ByteArray).size : Int) = 1 := rfl
  have R0 := Lib.hid (⟨[], ps, S, rfl, hs, B0, B1, B2, h0, hsz⟩ : SplRel c ps b J W)
  clear b0 b1 b2 hsame hW hs h0 hJ hJx hY hZ B0 B1 B2 hb hl hlE hE
  refine (callsIn_wide (n := 4)).1 ?_
  refine callsIn_of_wp Tryz.func150 rfl trivial ?_ rfl
  simp only [Tryz.ntmps150, List.size_toArray, List.length_cons, List.length_nil, Nat.reduceAdd, Nat.reduceSub, Array.replicate_succ, Array.replicate_zero, List.push_toArray, List.append_toArray, List.nil_append, List.cons_append]
  gi_wp2_with fail
  gi_loopw [7] (fun _ wr => SplRel c ps b J wr) (fun _ wr => leftIn b wr)
  case atStart => exact R0.out
  case round =>
    obtain ⟨pre, rest, T, hp, hsp, B0, B1, B2, hJp, hTl⟩ := hrel
    have HTl := Lib.hid hTl
    clear hTl
    rcases rest with _ | ⟨p, rest⟩
    · simp [splB] at hsp
    have k0 := B0.cell
    have k1 := B1.cell
    have k2 := B2.cell
    have f0 := B0.frozen
    have HB := Lib.hid (And.intro B0 (And.intro B1 B2))
    have HP := Lib.hid hp
    have HJp := Lib.hid hJp
    clear B0 B1 B2 hp hJp
    rcases rest with _ | ⟨q, r⟩
    · obtain ⟨hi, rfl⟩ := splB_one hsp
      clear hsp
      obtain ⟨fn, tmps, assign, body, hy, hR⟩ := HY.out pre T wr HJp.out ⟨[], HP.out⟩
      have HRo := Lib.hid hR
      clear hR
      gi_wp2_with fail
      refine ⟨trivial, ?_⟩
      gi_at_call 136
      refine (callsIn_wide.2 (strings_Index_one ⟨T.toArray⟩ c wr)).mono ?_
      rintro e w1 ⟨rfl, rfl⟩
      rw [show Lib.indexByte (⟨T.toArray⟩ : ByteArray).data.toList c = -1 from hi]
      gi_wp2_with fail
      refine (roundIn_any HRo.out).mono ?_
      rintro e w2 ⟨(⟨rfl, hj2⟩ | ⟨rfl, hj2⟩), hk2⟩
      · have HJ2 := Lib.hid (show J ps w2 by rw [HP.out]; exact hj2)
        clear hj2 hk2 hy
        gi_wp2_with fail
        go_end0
        exact ⟨⟨_, rfl⟩, .inl HJ2.out⟩
      · have HJ2 := Lib.hid hj2
        clear hj2 hk2 hy
        gi_wp2_with fail
        go_end0
        exact ⟨⟨_, rfl⟩, .inr ⟨_, HJ2.out⟩⟩
    · obtain ⟨hi, ht, hs2⟩ := splB_more hsp
      have hlt := index_lt hi
      clear hsp
      obtain ⟨fn, tmps, assign, body, hy, hR⟩ := HY.out pre p wr HJp.out ⟨q :: r, HP.out⟩
      have HRo := Lib.hid hR
      have HT := Lib.hid ht
      have HS2 := Lib.hid hs2
      clear hR ht hs2
      generalize hn : p.length = n at hi hlt HT HS2
      have HN := Lib.hid hn
      clear hn
      have q0 : decide ((n : Int) < 0) = false := by simp
      have hTl : T.length < 4000 := HTl.out
      have q1 : wrap64 (n : Int) = (n : Int) := by unfold wrap64; omega
      have q2 : wrap64 ((n : Int) + 1) = (n : Int) + 1 := by unfold wrap64; omega
      have q3 : (0 : Int) ≤ (n : Int) := by omega
      have q4 : (n : Int) ≤ (T.length : Int) := by omega
      have q5 : (0 : Int) ≤ (n : Int) + 1 := by omega
      have q6 : (n : Int) + 1 ≤ (T.length : Int) := by omega
      have q7 : (⟨T.toArray⟩ : ByteArray).extract 0 n = ⟨p.toArray⟩ := by rw [cut_str, ← HT.out]; simp
      gi_wp2_with fail
      refine ⟨trivial, ?_⟩
      gi_at_call 136
      refine (callsIn_wide.2 (strings_Index_one ⟨T.toArray⟩ c wr)).mono ?_
      rintro e w1 ⟨rfl, rfl⟩
      rw [show Lib.indexByte (⟨T.toArray⟩ : ByteArray).data.toList c = (n : Int) from hi]
      gi_wp2_with fail
      refine (roundIn_any HRo.out).mono ?_
      rintro e w2 ⟨(⟨rfl, hj2⟩ | ⟨rfl, hj2⟩), hk2⟩
      · have C0 := hk2.boxed HB.out.1 (.inl (by omega))
        have C1 := hk2.boxed HB.out.2.1 (.inl (by omega))
        have C2 := hk2.boxed HB.out.2.2 (.inl (by omega))
        have k3 := C0.cell
        have k4 := C1.cell
        have f3 := C0.frozen
        have HC := Lib.hid (And.intro C0 (And.intro C1 C2))
        have HJ2 := Lib.hid hj2
        clear hj2 hk2 hy C0 C1 C2 k0 k1 k2 f0
        gi_wp2_with fail
        rw [show (⟨T.toArray⟩ : ByteArray).extract (n + 1) T.length = ⟨(T.drop (n + 1)).toArray⟩ by rw [cut_str]; simp]
        have D0 := HC.out.1.set (.string ⟨(T.drop (n + 1)).toArray⟩)
        refine ⟨⟨pre ++ [p], q :: r, T.drop (n + 1), by rw [HP.out]; simp, HS2.out, D0, HC.out.2.1.other (by omega) _, HC.out.2.2.other (by omega) _, HJ.out _ _ _ HJ2.out (Tch.cell _ _ _ (.inr ⟨Nat.le_refl _, ?_⟩)), by simp; omega⟩, ?_⟩
        · show b < b + 3
          omega
        · rw [leftIn_is D0, leftIn_is HB.out.1]
          simp
          omega
      · have HJ2 := Lib.hid hj2
        clear hj2 hk2 hy
        gi_wp2_with fail
        refine bodyPost_ret (results_none rfl _ _ _) rfl ?_
        exact ⟨⟨_, rfl⟩, .inr ⟨_, HJ2.out⟩⟩
end Go.Proofs.YtipigfgnpfhdbaaGreatDoor.U
namespace Go.Proofs.YtipigfgnpfhdbaaGreatDoor.U
open Go.RowKit Go.Shelf
set_option linter.unusedVariables false
attribute [local go_sem] Oper.semAt_some

theorem fsr_step {s : List UInt8} {k : Nat} {st : Int} {i : Nat} {rest : List (List UInt8)} (h : fsr s k st i = some rest) (hi : i < s.length) :
    ∃ k', k = k' + 1 ∧ (1 ≤ (stp s i).2.1 ∧ i + (stp s i).2.1 ≤ s.length) ∧ st ≤ i ∧ (stp s i).1 ≤ 1114111 ∧
      (((stp s i).2.2 = true ∧ 0 ≤ st ∧ ∃ r, rest = ((s.take i).drop st.toNat) :: r ∧ fsr s k' (-1) (i + (stp s i).2.1) = some r) ∨
       ((stp s i).2.2 = true ∧ st < 0 ∧ fsr s k' (-1) (i + (stp s i).2.1) = some rest) ∨
       ((stp s i).2.2 = false ∧ st < 0 ∧ fsr s k' i (i + (stp s i).2.1) = some rest) ∨
       ((stp s i).2.2 = false ∧ 0 ≤ st ∧ fsr s k' st (i + (stp s i).2.1) = some rest)) := by
  cases k with
  | zero => simp [fsr] at h
  | succ k' =>
    unfold fsr at h
    rw [if_pos hi] at h
    split at h
    · rename_i hc
      refine ⟨k', rfl, hc.1, hc.2.1, hc.2.2, ?_⟩
      split at h
      · rename_i hs
        split at h
        · rename_i h0
          rw [Option.map_eq_some_iff] at h
          obtain ⟨r, h1, h2⟩ := h
          exact .inl ⟨hs, h0, r, h2.symm, h1⟩
        · rename_i h0
          exact .inr (.inl ⟨hs, by omega, h⟩)
      · rename_i hs
        have hs' : (stp s i).2.2 = false := by simpa using hs
        split at h
        · rename_i h0
          exact .inr (.inr (.inl ⟨hs', h0, h⟩))
        · rename_i h0
          exact .inr (.inr (.inr ⟨hs', by omega, h⟩))
    · cases h
theorem fsr_end {s : List UInt8} {k : Nat} {st : Int} {rest : List (List UInt8)} (h : fsr s k st s.length = some rest) : st ≤ s.length ∧ ((0 ≤ st ∧ rest = [s.drop st.toNat]) ∨ (st < 0 ∧ rest = [])) := by
  cases k with
  | zero => simp [fsr] at h
  | succ k' =>
    unfold fsr at h
    rw [if_neg (by omega)] at h
    split at h
    · rename_i hc
      refine ⟨hc.2, ?_⟩
      split at h
      · rename_i h0
        cases h
        exact .inl ⟨h0, rfl⟩
      · rename_i h0
        cases h
        exact .inr ⟨by omega, rfl⟩
    · cases h
theorem byte_at (S : List UInt8) (i : Nat) (h : i < (⟨S.toArray⟩ : ByteArray).size) : ((⟨S.toArray⟩ : ByteArray)[i]'h).toNat = (S.getD i 0).toNat := by
  have h' : i < S.length := by rw [size_of] at h; exact h
  simp [ByteArray.getElem_eq_getElem_data, List.getD, h']

def FldRel (S : List UInt8) (fs : List (List UInt8)) (b E : Nat) (J : List (List UInt8) → World → Prop) (u v : Value) (wr : World) : Prop :=
  ∃ (k : Nat) (pre rest : List (List UInt8)) (st : Int) (i : Nat), u = .int .i64 st ∧ v = .int .i64 i ∧ fs = pre ++ rest ∧ fsr S k st i = some rest ∧ (-1 ≤ st ∧ i ≤ S.length ∧ E ≤ wr.heap.size) ∧ Boxed wr b 9 (.string ⟨S.toArray⟩) ∧ J pre wr

set_option maxRecDepth 100000 in
set_option maxHeartbeats 8000000 in
theorem fields_in (S : List UInt8) (fs : List (List UInt8)) (hs : fsr S (S.length + 1) (-1) 0 = some fs) (hsz : S.length < 4000) (b : Nat) (Wz : World) (hb : b + 1 ≤ Wz.heap.size)
    (b0 : Boxed Wz b 9 (.string ⟨S.toArray⟩)) :
    Seq Tryz.prog (fun x : List UInt8 => #[.string ⟨x.toArray⟩]) fs b (b + 1) 137 #[] #[.pointer (some ⟨b, 0, none⟩)] Tz Wz := by
  intro l E J Jx hZ hJ hJx hY W hl hlE hE hW h0
  have B0 : Boxed W b 9 (.string ⟨S.toArray⟩) := (hW b (Nat.le_refl _) (by omega)).trans b0
  have HJ := Lib.hid hJ
  have HY := Lib.hid hY
  have HZ := Lib.hid hZ
  have HE := Lib.hid (show b + 1 ≤ E by omega)
  have R0 := Lib.hid (⟨S.length + 1, [], fs, -1, 0, rfl, rfl, rfl, hs, ⟨by omega, by omega, hE⟩, B0, h0⟩ : FldRel S fs b E J (.int .i64 (-1)) (.int .i64 0) W)
  clear b0 hW hs h0 hJ hJx hY hZ B0 hb hl hlE hE
  refine (callsIn_wide (n := 4)).1 ?_
  refine callsIn_of_wp Tryz.func137 rfl trivial ?_ rfl
  simp only [Tryz.ntmps137, List.size_toArray, List.length_cons, List.length_nil, Nat.reduceAdd, Nat.reduceSub, Array.replicate_succ, Array.replicate_zero, List.push_toArray, List.append_toArray, List.nil_append, List.cons_append]
  gi_wp2_with fail
  gi_loopw [3, 4] (fun u v wr => FldRel S fs b E J u v wr) (fun _ v _ => S.length - (intOf v).toNat)
  case atStart => exact R0.out
  case round =>
    obtain ⟨k, pre, rest, st, i, rfl, rfl, hp, hf, ⟨hst, hi, hE⟩, B0, hJp⟩ := hrel
    have k0 := B0.cell
    have hsize : ((⟨S.toArray⟩ : ByteArray).size : Int) = (S.length : Int) := by rw [size_of]
    have HB := Lib.hid B0
    have HP := Lib.hid hp
    have HJp := Lib.hid hJp
    have HWE := Lib.hid hE
    clear B0 hp hJp hE
    by_cases hlt : i < S.length
    · obtain ⟨k', rfl, ⟨z1, z2⟩, hsi, hr, hcase⟩ := fsr_step hf hlt
      clear hf
      have q0 : decide ((i : Int) < (S.length : Int)) = true := by simpa using hlt
      have qi0 : (0 : Int) ≤ (i : Int) := by omega
      have qi1 : (i : Int) < (S.length : Int) := by omega
      have qi2 : (i : Int) ≤ (S.length : Int) := by omega
      have hat := byte_at S i
      have hv : (S.getD i 0).toNat < 256 := UInt8.toNat_lt _
      have HS := Lib.hid hcase
      clear hcase
      have HT := Lib.hid (HZ.out _ _ HJp.out)
      have hc := HT.out.1.cell gSp_is (S.getD i 0).toNat (by rw [Lib.asciiSpaceTab_length]; exact hv)
      rw [Lib.asciiSpaceTab_at _ hv, show UInt8.ofNat (S.getD i 0).toNat = S.getD i 0 by simp] at hc
      by_cases hasc : (S.getD i 0).toNat < 128
      · have e1 : stp S i = (((S.getD i 0).toNat : Int), 1, Lib.isSp (S.getD i 0)) := if_pos hasc
        rw [e1] at z1 z2 hr HS
        dsimp only at z1 z2 hr
        rcases HS.out with hcs | hcs | hcs | hcs
        all_goals clear HS
        all_goals dsimp only at hcs
        · obtain ⟨hsp, hs0, r, rfl, hf2⟩ := hcs
          rw [hsp] at hc
          simp only [if_true] at hc
          have q1 : wrap64 ((i : Int) + 1) = (i : Int) + 1 := by unfold wrap64; omega
          have hlen : S.length < 4000 := hsz
          generalize hvv : (S.getD i 0).toNat = v at hat hv hc hasc
          have qa : decide ((128 : Int) ≤ (v : Int)) = false := by simp; omega
          have qv : (v : Int) < 256 := by omega
          clear hvv e1 hsp
          have hst2 : ((st.toNat : Nat) : Int) = st := by omega
          obtain ⟨s, hs⟩ : ∃ s : Nat, s = st.toNat := ⟨_, rfl⟩
          rw [← hs] at hst2
          subst hst2
          clear hs
          have qs : decide ((s : Int) < 0) = false := by simp
          have qs0 : (0 : Int) ≤ (s : Int) := by omega
          have qs1 : (s : Int) ≤ (i : Int) := by omega
          obtain ⟨fn, tmps, assign, body, hy, hR⟩ := HY.out pre ((S.take i).drop (s : Int).toNat) wr HJp.out ⟨r, HP.out⟩
          have HRo := Lib.hid hR
          have hx : (⟨S.toArray⟩ : ByteArray).extract s i = ⟨((S.take i).drop (s : Int).toNat).toArray⟩ := by rw [cut_str]; simp
          generalize ((S.take i).drop (s : Int).toNat) = pc at hx hy HRo HP
          clear hR
          have HF := Lib.hid hf2
          clear hf2
          gi_wp2_with fail
          refine (roundIn_any HRo.out).mono ?_
          rintro e w9 ⟨(⟨rfl, hj2⟩ | ⟨rfl, hj2⟩), hk2⟩
          · have C0 := hk2.boxed HB.out (.inl (by omega))
            have HJ2 := Lib.hid hj2
            have HS2 := Lib.hid hk2.size
            have HC := Lib.hid C0
            clear hj2 hk2 hy C0 k0
            gi_wp2_with fail
            exact ⟨⟨k', pre ++ [pc], r, -1, i + 1, rfl, (by first | rfl | (congr 1; omega)), by rw [HP.out]; simp, HF.out, ⟨by omega, by omega, Nat.le_trans HWE.out HS2.out⟩, HC.out, HJ2.out⟩, by simp [intOf]; omega⟩
          · have HJ2 := Lib.hid hj2
            clear hj2 hk2 hy
            gi_wp2_with fail
            refine bodyPost_ret (results_none rfl _ _ _) rfl ?_
            exact ⟨⟨_, rfl⟩, .inr ⟨_, HJ2.out⟩⟩
        · obtain ⟨hsp, hs0, hf2⟩ := hcs
          rw [hsp] at hc
          simp only [if_true] at hc
          have q1 : wrap64 ((i : Int) + 1) = (i : Int) + 1 := by unfold wrap64; omega
          have hlen : S.length < 4000 := hsz
          generalize hvv : (S.getD i 0).toNat = v at hat hv hc hasc
          have qa : decide ((128 : Int) ≤ (v : Int)) = false := by simp; omega
          have qv : (v : Int) < 256 := by omega
          clear hvv e1 hsp
          have qs : decide ((0 : Int) ≤ st) = false := by simpa using hs0
          have HF := Lib.hid hf2
          clear hf2
          gi_wp2_with fail
          exact ⟨⟨k', pre, rest, -1, i + 1, (by congr 1; omega), (by first | rfl | (congr 1; omega)), HP.out, HF.out, ⟨by omega, by omega, HWE.out⟩, HB.out, HJp.out⟩, by simp [intOf]; omega⟩
        · obtain ⟨hsp, hs0, hf2⟩ := hcs
          rw [hsp] at hc
          simp only [Bool.false_eq_true, if_false] at hc
          have q1 : wrap64 ((i : Int) + 1) = (i : Int) + 1 := by unfold wrap64; omega
          have hlen : S.length < 4000 := hsz
          generalize hvv : (S.getD i 0).toNat = v at hat hv hc hasc
          have qa : decide ((128 : Int) ≤ (v : Int)) = false := by simp; omega
          have qv : (v : Int) < 256 := by omega
          clear hvv e1 hsp
          have qs : decide (st < 0) = true := by simpa using hs0
          have HF := Lib.hid hf2
          clear hf2
          gi_wp2_with fail
          exact ⟨⟨k', pre, rest, i, i + 1, rfl, (by first | rfl | (congr 1; omega)), HP.out, HF.out, ⟨by omega, by omega, HWE.out⟩, HB.out, HJp.out⟩, by simp [intOf]; omega⟩
        · obtain ⟨hsp, hs0, hf2⟩ := hcs
          rw [hsp] at hc
          simp only [Bool.false_eq_true, if_false] at hc
          have q1 : wrap64 ((i : Int) + 1) = (i : Int) + 1 := by unfold wrap64; omega
          have hlen : S.length < 4000 := hsz
          generalize hvv : (S.getD i 0).toNat = v at hat hv hc hasc
          have qa : decide ((128 : Int) ≤ (v : Int)) = false := by simp; omega
          have qv : (v : Int) < 256 := by omega
          clear hvv e1 hsp
          have qs : decide (st < 0) = false := by simpa using hs0
          have HF := Lib.hid hf2
          clear hf2
          gi_wp2_with fail
          exact ⟨⟨k', pre, rest, st, i + 1, rfl, (by first | rfl | (congr 1; omega)), HP.out, HF.out, ⟨by omega, by omega, HWE.out⟩, HB.out, HJp.out⟩, by simp [intOf]; omega⟩
      · have e1 : stp S i = (((Lib.decodeGo ⟨(S.drop i).toArray⟩).1 : Int), (Lib.decodeGo ⟨(S.drop i).toArray⟩).2, Lib.isSpaceZ ((Lib.decodeGo ⟨(S.drop i).toArray⟩).1 : Int)) := if_neg hasc
        rw [e1] at z1 z2 hr HS
        dsimp only at z1 z2 hr
        rcases HS.out with hcs | hcs | hcs | hcs
        all_goals clear HS
        all_goals dsimp only at hcs
        · obtain ⟨hsp, hs0, r, rfl, hf2⟩ := hcs
          have hlen : S.length < 4000 := hsz
          have hdrop : (⟨S.toArray⟩ : ByteArray).extract i S.length = ⟨(S.drop i).toArray⟩ := by rw [cut_str]; simp
          have HD := Lib.hid (fun w h => utf8_DecodeRuneInString ⟨(S.drop i).toArray⟩ w h)
          have HI := Lib.hid (fun w h => unicode_IsSpace_any ((Lib.decodeGo ⟨(S.drop i).toArray⟩).1 : Int) w (by omega) (by omega) h)
          rw [hsp] at HI
          generalize hvv : (S.getD i 0).toNat = v at hat hv hc hasc
          have qa : decide ((128 : Int) ≤ (v : Int)) = true := by simp; omega
          have qv : (v : Int) < 256 := by omega
          generalize (Lib.decodeGo ⟨(S.drop i).toArray⟩).1 = d at HD HI hr
          generalize (Lib.decodeGo ⟨(S.drop i).toArray⟩).2 = z at HD z1 z2 hf2
          have q1 : wrap64 ((i : Int) + (z : Int)) = (i : Int) + (z : Int) := by unfold wrap64; omega
          generalize (if Lib.isSp (S.getD i 0) = true then (1 : Int) else 0) = cz at hc
          clear hvv e1 hsp
          have hst2 : ((st.toNat : Nat) : Int) = st := by omega
          obtain ⟨s, hs⟩ : ∃ s : Nat, s = st.toNat := ⟨_, rfl⟩
          rw [← hs] at hst2
          subst hst2
          clear hs
          have qs : decide ((s : Int) < 0) = false := by simp
          have qs0 : (0 : Int) ≤ (s : Int) := by omega
          have qs1 : (s : Int) ≤ (i : Int) := by omega
          gi_wp2_with fail
          refine ⟨trivial, ?_⟩
          gi_at_call 138
          refine (callsIn_wide.2 (HD.out _ HT.out.2.1)).mono ?_
          rintro e w1 ⟨rfl, hb1⟩
          have HT1 := Lib.hid (HT.out.bel hb1)
          have HJ1 := Lib.hid (HJ.out _ _ _ HJp.out (Tch.of_bel hb1 HWE.out))
          have HB1 := Lib.hid (boxed_bel HB.out hb1)
          have HW1 := Lib.hid (Nat.le_trans HWE.out (Below.size hb1))
          clear hb1 k0 hc
          gi_wp2_with fail
          refine ⟨trivial, ?_⟩
          gi_at_call 139
          refine (callsIn_wide.2 (HI.out _ HT1.out.2.2.1)).mono ?_
          rintro e w2 ⟨rfl, hb2⟩
          have HJ2' := Lib.hid (HJ.out _ _ _ HJ1.out (Tch.of_bel hb2 HW1.out))
          have HB2 := Lib.hid (boxed_bel HB1.out hb2)
          have HW2 := Lib.hid (Nat.le_trans HW1.out (Below.size hb2))
          have k0 := HB2.out.cell
          clear hb2
          obtain ⟨fn, tmps, assign, body, hy, hR⟩ := HY.out pre ((S.take i).drop (s : Int).toNat) w2 HJ2'.out ⟨r, HP.out⟩
          have HRo := Lib.hid hR
          have hx : (⟨S.toArray⟩ : ByteArray).extract s i = ⟨((S.take i).drop (s : Int).toNat).toArray⟩ := by rw [cut_str]; simp
          generalize ((S.take i).drop (s : Int).toNat) = pc at hx hy HRo HP
          clear hR
          have HF := Lib.hid hf2
          clear hf2
          gi_wp2_with fail
          refine (roundIn_any HRo.out).mono ?_
          rintro e w9 ⟨(⟨rfl, hj2⟩ | ⟨rfl, hj2⟩), hk2⟩
          · have C0 := hk2.boxed HB2.out (.inl (by omega))
            have HJ2 := Lib.hid hj2
            have HS2 := Lib.hid hk2.size
            have HC := Lib.hid C0
            clear hj2 hk2 hy C0 k0
            gi_wp2_with fail
            exact ⟨⟨k', pre ++ [pc], r, -1, i + z, rfl, (by first | rfl | (congr 1; omega)), by rw [HP.out]; simp, HF.out, ⟨by omega, by omega, Nat.le_trans HW2.out HS2.out⟩, HC.out, HJ2.out⟩, by simp [intOf]; omega⟩
          · have HJ2 := Lib.hid hj2
            clear hj2 hk2 hy
            gi_wp2_with fail
            refine bodyPost_ret (results_none rfl _ _ _) rfl ?_
            exact ⟨⟨_, rfl⟩, .inr ⟨_, HJ2.out⟩⟩
        · obtain ⟨hsp, hs0, hf2⟩ := hcs
          have hlen : S.length < 4000 := hsz
          have hdrop : (⟨S.toArray⟩ : ByteArray).extract i S.length = ⟨(S.drop i).toArray⟩ := by rw [cut_str]; simp
          have HD := Lib.hid (fun w h => utf8_DecodeRuneInString ⟨(S.drop i).toArray⟩ w h)
          have HI := Lib.hid (fun w h => unicode_IsSpace_any ((Lib.decodeGo ⟨(S.drop i).toArray⟩).1 : Int) w (by omega) (by omega) h)
          rw [hsp] at HI
          generalize hvv : (S.getD i 0).toNat = v at hat hv hc hasc
          have qa : decide ((128 : Int) ≤ (v : Int)) = true := by simp; omega
          have qv : (v : Int) < 256 := by omega
          generalize (Lib.decodeGo ⟨(S.drop i).toArray⟩).1 = d at HD HI hr
          generalize (Lib.decodeGo ⟨(S.drop i).toArray⟩).2 = z at HD z1 z2 hf2
          have q1 : wrap64 ((i : Int) + (z : Int)) = (i : Int) + (z : Int) := by unfold wrap64; omega
          generalize (if Lib.isSp (S.getD i 0) = true then (1 : Int) else 0) = cz at hc
          clear hvv e1 hsp
          have qs : decide ((0 : Int) ≤ st) = false := by simpa using hs0
          have HF := Lib.hid hf2
          clear hf2
          gi_wp2_with fail
          refine ⟨trivial, ?_⟩
          gi_at_call 138
          refine (callsIn_wide.2 (HD.out _ HT.out.2.1)).mono ?_
          rintro e w1 ⟨rfl, hb1⟩
          have HT1 := Lib.hid (HT.out.bel hb1)
          have HJ1 := Lib.hid (HJ.out _ _ _ HJp.out (Tch.of_bel hb1 HWE.out))
          have HB1 := Lib.hid (boxed_bel HB.out hb1)
          have HW1 := Lib.hid (Nat.le_trans HWE.out (Below.size hb1))
          clear hb1 k0 hc
          gi_wp2_with fail
          refine ⟨trivial, ?_⟩
          gi_at_call 139
          refine (callsIn_wide.2 (HI.out _ HT1.out.2.2.1)).mono ?_
          rintro e w2 ⟨rfl, hb2⟩
          have HJ2' := Lib.hid (HJ.out _ _ _ HJ1.out (Tch.of_bel hb2 HW1.out))
          have HB2 := Lib.hid (boxed_bel HB1.out hb2)
          have HW2 := Lib.hid (Nat.le_trans HW1.out (Below.size hb2))
          have k0 := HB2.out.cell
          clear hb2
          gi_wp2_with fail
          exact ⟨⟨k', pre, rest, -1, i + z, (by congr 1; omega), (by first | rfl | (congr 1; omega)), HP.out, HF.out, ⟨by omega, by omega, HW2.out⟩, HB2.out, HJ2'.out⟩, by simp [intOf]; omega⟩
        · obtain ⟨hsp, hs0, hf2⟩ := hcs
          have hlen : S.length < 4000 := hsz
          have hdrop : (⟨S.toArray⟩ : ByteArray).extract i S.length = ⟨(S.drop i).toArray⟩ := by rw [cut_str]; simp
          have HD := Lib.hid (fun w h => utf8_DecodeRuneInString ⟨(S.drop i).toArray⟩ w h)
          have HI := Lib.hid (fun w h => unicode_IsSpace_any ((Lib.decodeGo ⟨(S.drop i).toArray⟩).1 : Int) w (by omega) (by omega) h)
          rw [hsp] at HI
          generalize hvv : (S.getD i 0).toNat = v at hat hv hc hasc
          have qa : decide ((128 : Int) ≤ (v : Int)) = true := by simp; omega
          have qv : (v : Int) < 256 := by omega
          generalize (Lib.decodeGo ⟨(S.drop i).toArray⟩).1 = d at HD HI hr
          generalize (Lib.decodeGo ⟨(S.drop i).toArray⟩).2 = z at HD z1 z2 hf2
          have q1 : wrap64 ((i : Int) + (z : Int)) = (i : Int) + (z : Int) := by unfold wrap64; omega
          generalize (if Lib.isSp (S.getD i 0) = true then (1 : Int) else 0) = cz at hc
          clear hvv e1 hsp
          have qs : decide (st < 0) = true := by simpa using hs0
          have HF := Lib.hid hf2
          clear hf2
          gi_wp2_with fail
          refine ⟨trivial, ?_⟩
          gi_at_call 138
          refine (callsIn_wide.2 (HD.out _ HT.out.2.1)).mono ?_
          rintro e w1 ⟨rfl, hb1⟩
          have HT1 := Lib.hid (HT.out.bel hb1)
          have HJ1 := Lib.hid (HJ.out _ _ _ HJp.out (Tch.of_bel hb1 HWE.out))
          have HB1 := Lib.hid (boxed_bel HB.out hb1)
          have HW1 := Lib.hid (Nat.le_trans HWE.out (Below.size hb1))
          clear hb1 k0 hc
          gi_wp2_with fail
          refine ⟨trivial, ?_⟩
          gi_at_call 139
          refine (callsIn_wide.2 (HI.out _ HT1.out.2.2.1)).mono ?_
          rintro e w2 ⟨rfl, hb2⟩
          have HJ2' := Lib.hid (HJ.out _ _ _ HJ1.out (Tch.of_bel hb2 HW1.out))
          have HB2 := Lib.hid (boxed_bel HB1.out hb2)
          have HW2 := Lib.hid (Nat.le_trans HW1.out (Below.size hb2))
          have k0 := HB2.out.cell
          clear hb2
          gi_wp2_with fail
          exact ⟨⟨k', pre, rest, i, i + z, rfl, (by first | rfl | (congr 1; omega)), HP.out, HF.out, ⟨by omega, by omega, HW2.out⟩, HB2.out, HJ2'.out⟩, by simp [intOf]; omega⟩
        · obtain ⟨hsp, hs0, hf2⟩ := hcs
          have hlen : S.length < 4000 := hsz
          have hdrop : (⟨S.toArray⟩ : ByteArray).extract i S.length = ⟨(S.drop i).toArray⟩ := by rw [cut_str]; simp
          have HD := Lib.hid (fun w h => utf8_DecodeRuneInString ⟨(S.drop i).toArray⟩ w h)
          have HI := Lib.hid (fun w h => unicode_IsSpace_any ((Lib.decodeGo ⟨(S.drop i).toArray⟩).1 : Int) w (by omega) (by omega) h)
          rw [hsp] at HI
          generalize hvv : (S.getD i 0).toNat = v at hat hv hc hasc
          have qa : decide ((128 : Int) ≤ (v : Int)) = true := by simp; omega
          have qv : (v : Int) < 256 := by omega
          generalize (Lib.decodeGo ⟨(S.drop i).toArray⟩).1 = d at HD HI hr
          generalize (Lib.decodeGo ⟨(S.drop i).toArray⟩).2 = z at HD z1 z2 hf2
          have q1 : wrap64 ((i : Int) + (z : Int)) = (i : Int) + (z : Int) := by unfold wrap64; omega
          generalize (if Lib.isSp (S.getD i 0) = true then (1 : Int) else 0) = cz at hc
          clear hvv e1 hsp
          have qs : decide (st < 0) = false := by simpa using hs0
          have HF := Lib.hid hf2
          clear hf2
          gi_wp2_with fail
          refine ⟨trivial, ?_⟩
          gi_at_call 138
          refine (callsIn_wide.2 (HD.out _ HT.out.2.1)).mono ?_
          rintro e w1 ⟨rfl, hb1⟩
          have HT1 := Lib.hid (HT.out.bel hb1)
          have HJ1 := Lib.hid (HJ.out _ _ _ HJp.out (Tch.of_bel hb1 HWE.out))
          have HB1 := Lib.hid (boxed_bel HB.out hb1)
          have HW1 := Lib.hid (Nat.le_trans HWE.out (Below.size hb1))
          clear hb1 k0 hc
          gi_wp2_with fail
          refine ⟨trivial, ?_⟩
          gi_at_call 139
          refine (callsIn_wide.2 (HI.out _ HT1.out.2.2.1)).mono ?_
          rintro e w2 ⟨rfl, hb2⟩
          have HJ2' := Lib.hid (HJ.out _ _ _ HJ1.out (Tch.of_bel hb2 HW1.out))
          have HB2 := Lib.hid (boxed_bel HB1.out hb2)
          have HW2 := Lib.hid (Nat.le_trans HW1.out (Below.size hb2))
          have k0 := HB2.out.cell
          clear hb2
          gi_wp2_with fail
          exact ⟨⟨k', pre, rest, st, i + z, rfl, (by first | rfl | (congr 1; omega)), HP.out, HF.out, ⟨by omega, by omega, HW2.out⟩, HB2.out, HJ2'.out⟩, by simp [intOf]; omega⟩
    · have hie : i = S.length := by omega
      subst hie
      obtain ⟨hle, hcs⟩ := fsr_end hf
      clear hf
      have q0 : decide ((S.length : Int) < (S.length : Int)) = false := by simp
      rcases hcs with ⟨hs0, rfl⟩ | ⟨hs0, rfl⟩
      · have hst2 : ((st.toNat : Nat) : Int) = st := by omega
        obtain ⟨s, hs⟩ : ∃ s : Nat, s = st.toNat := ⟨_, rfl⟩
        rw [← hs] at hst2
        subst hst2
        have qs : decide ((0 : Int) ≤ (s : Int)) = true := by simp
        have qs0 : (0 : Int) ≤ (s : Int) := by omega
        obtain ⟨fn, tmps, assign, body, hy, hR⟩ := HY.out pre (S.drop (s : Int).toNat) wr HJp.out ⟨[], HP.out⟩
        have HRo := Lib.hid hR
        have hx : (⟨S.toArray⟩ : ByteArray).extract s S.length = ⟨(S.drop (s : Int).toNat).toArray⟩ := by rw [cut_str]; simp
        generalize (S.drop (s : Int).toNat) = pc at hx hy HRo HP
        clear hR hs
        gi_wp2_with fail
        refine (roundIn_any HRo.out).mono ?_
        rintro e w9 ⟨(⟨rfl, hj2⟩ | ⟨rfl, hj2⟩), hk2⟩
        · have HJ2 := Lib.hid (show J fs w9 by rw [HP.out]; exact hj2)
          clear hj2 hk2 hy
          gi_wp2_with fail
          go_end0
          exact ⟨⟨_, rfl⟩, .inl HJ2.out⟩
        · have HJ2 := Lib.hid hj2
          clear hj2 hk2 hy
          gi_wp2_with fail
          go_end0
          exact ⟨⟨_, rfl⟩, .inr ⟨_, HJ2.out⟩⟩
      · have qs : decide ((0 : Int) ≤ st) = false := by simpa using hs0
        have HJ2 := Lib.hid (show J fs wr by rw [HP.out, List.append_nil]; exact HJp.out)
        gi_wp2_with fail
        go_end0
        exact ⟨⟨_, rfl⟩, .inl HJ2.out⟩
end Go.Proofs.YtipigfgnpfhdbaaGreatDoor.U
