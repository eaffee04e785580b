/- The chapters' lists of Extended Latin, Greek, Hebrew, Arabic and Cyrillic, a row a number: the number, and its character; what it is to look a number up; digits of base 16. Plain mathematics. Slices that read as numbers, rows that a call owns, 'append' onto them, conversions between strings, bytes and characters. Of whatever program. The texts that stand in latin.Ansel and scripts.list, as letters; their lines, what parts makes of each, the words and what each word tells: together the lists of the chapters. The bodies are the translation's own, the texts and the places in the Go text struck out. The ten runs of eacc: the characters of a text, the codes that follow each other, what stands at each code. Plain mathematics. What small.sign, raised, greek and Rune answer, of the three sets and any number: what the chapter tells. No condition. What each set's numbers tell, all sets together. Plain mathematics. The spans of marks, a character's class by them, all marks: what the program's table and the reference's say, and that they say the same. Plain mathematics. Sets and escapes, as plain lists of numbers: the escapes of chapter 8, the least one of a side and a set. No program is named here. -/
import Derived.KernelRfl
import Derived.WalkKit
import Derived.Below
import Derived.OpenShut
import Derived.Deep.AppendLies
import Derived.Deep.RegionLaw
import Derived.Deep.DrawnRows
import Derived.Deep.RegionHeld3
import Derived.Lib.Hide
import Derived.Lib.SlBytesConst
import Derived.Laws.AppendOwnNone
import Derived.Laws.Cover4
import Derived.Laws.RangeString
import Derived.Maps.AppendAt
import Derived.BigFrame
import Derived.BigQuiet
import Derived.BigRegion
import Derived.ArgAppend
import Derived.Lib.AppendStr
import Derived.Test.YtphnahabonfmmaaGreatDoorProg
import Derived.Lib.Space
import Derived.Lib.SpaceU
import Derived.Lib.IndexMore
import Derived.Shelf.Unicode.DecodeSlow
import Derived.Shelf.Unicode.IsSpaceAny
import Derived.Lib.OthersKept
import Derived.Test.YtphnahabonfmmaaGreatDoorChecked
namespace Go.Proofs.YtphnahabonfmmaaGreatDoor.U
set_option linter.unusedVariables false
set_option maxRecDepth 100000

def tabA : List (Int × Int) := [(33, 321), (34, 216), (35, 272), (36, 222), (37, 198), (38, 338), (39, 697), (40, 183), (41, 9837), (42, 174), (43, 177), (44, 416), (45, 431), (46, 700), (48, 699), (49, 322), (50, 248), (51, 273), (52, 254), (53, 230), (54, 339), (55, 698), (56, 305), (57, 163), (58, 240), (60, 417), (61, 432), (64, 176), (65, 8467), (66, 8471), (67, 169), (68, 9839), (69, 191), (70, 161), (71, 223), (72, 8364), (96, 777), (97, 768), (98, 769), (99, 770), (100, 771), (101, 772), (102, 774), (103, 775), (104, 776), (105, 780), (106, 778), (107, 65056), (108, 65057), (109, 789), (110, 779), (111, 784), (112, 807), (113, 808), (114, 803), (115, 804), (116, 805), (117, 819), (118, 818), (119, 806), (120, 796), (121, 814), (122, 65058), (123, 65059), (126, 787)]
def tab3 : List (Int × Int) := [(33, 768), (34, 769), (35, 776), (36, 834), (37, 787), (38, 788), (39, 837), (48, 171), (49, 187), (50, 8220), (51, 8221), (52, 884), (53, 885), (59, 903), (63, 894), (65, 913), (66, 914), (68, 915), (69, 916), (70, 917), (71, 986), (72, 988), (73, 918), (74, 919), (75, 920), (76, 921), (77, 922), (78, 923), (79, 924), (80, 925), (81, 926), (82, 927), (83, 928), (84, 990), (85, 929), (86, 931), (88, 932), (89, 933), (90, 934), (91, 935), (92, 936), (93, 937), (94, 992), (97, 945), (98, 946), (99, 976), (100, 947), (101, 948), (102, 949), (103, 987), (104, 989), (105, 950), (106, 951), (107, 952), (108, 953), (109, 954), (110, 955), (111, 956), (112, 957), (113, 958), (114, 959), (115, 960), (116, 991), (117, 961), (118, 963), (119, 962), (120, 964), (121, 965), (122, 966), (123, 967), (124, 968), (125, 969), (126, 993)]
def tab4 : List (Int × Int) := [(33, 33), (34, 1524), (35, 35), (36, 36), (37, 37), (38, 38), (39, 1523), (40, 40), (41, 41), (42, 42), (43, 43), (44, 44), (45, 1470), (46, 46), (47, 47), (48, 48), (49, 49), (50, 50), (51, 51), (52, 52), (53, 53), (54, 54), (55, 55), (56, 56), (57, 57), (58, 58), (59, 59), (60, 60), (61, 61), (62, 62), (63, 63), (64, 1463), (65, 1464), (66, 1462), (67, 1461), (68, 1460), (69, 1465), (70, 1467), (71, 1456), (72, 1458), (73, 1459), (74, 1457), (75, 1468), (76, 1471), (77, 1473), (78, 64286), (96, 1488), (97, 1489), (98, 1490), (99, 1491), (100, 1492), (101, 1493), (102, 1494), (103, 1495), (104, 1496), (105, 1497), (106, 1498), (107, 1499), (108, 1500), (109, 1501), (110, 1502), (111, 1503), (112, 1504), (113, 1505), (114, 1506), (115, 1507), (116, 1508), (117, 1509), (118, 1510), (119, 1511), (120, 1512), (121, 1513), (122, 1514), (123, 1520), (124, 1521), (125, 1522)]
def tab5 : List (Int × Int) := [(33, 33), (34, 34), (35, 35), (36, 36), (37, 1642), (38, 38), (39, 39), (40, 40), (41, 41), (42, 1645), (43, 43), (44, 1548), (45, 45), (46, 46), (47, 47), (48, 1632), (49, 1633), (50, 1634), (51, 1635), (52, 1636), (53, 1637), (54, 1638), (55, 1639), (56, 1640), (57, 1641), (58, 58), (59, 1563), (60, 60), (61, 61), (62, 62), (63, 1567), (65, 1569), (66, 1570), (67, 1571), (68, 1572), (69, 1573), (70, 1574), (71, 1575), (72, 1576), (73, 1577), (74, 1578), (75, 1579), (76, 1580), (77, 1581), (78, 1582), (79, 1583), (80, 1584), (81, 1585), (82, 1586), (83, 1587), (84, 1588), (85, 1589), (86, 1590), (87, 1591), (88, 1592), (89, 1593), (90, 1594), (91, 91), (93, 93), (96, 1600), (97, 1601), (98, 1602), (99, 1603), (100, 1604), (101, 1605), (102, 1606), (103, 1607), (104, 1608), (105, 1609), (106, 1610), (107, 1611), (108, 1612), (109, 1613), (110, 1614), (111, 1615), (112, 1616), (113, 1617), (114, 1618), (115, 1649), (116, 1648), (120, 1644), (121, 8221), (122, 8220)]
def tab6 : List (Int × Int) := [(33, 1789), (34, 1650), (35, 1651), (36, 1657), (37, 1658), (38, 1659), (39, 1660), (40, 1661), (41, 1662), (42, 1663), (43, 1664), (44, 1665), (45, 1666), (46, 1667), (47, 1668), (48, 1669), (49, 1670), (50, 1727), (51, 1671), (52, 1672), (53, 1673), (54, 1674), (55, 1675), (56, 1676), (57, 1677), (58, 1678), (59, 1679), (60, 1680), (61, 1681), (62, 1682), (63, 1683), (64, 1684), (65, 1685), (66, 1686), (67, 1687), (68, 1688), (69, 1689), (70, 1690), (71, 1691), (72, 1692), (73, 1786), (74, 1693), (75, 1694), (76, 1787), (77, 1695), (78, 1696), (79, 1788), (80, 1697), (81, 1698), (82, 1699), (83, 1700), (84, 1701), (85, 1702), (86, 1703), (87, 1704), (88, 1705), (89, 1706), (90, 1707), (91, 1708), (92, 1709), (93, 1710), (94, 1711), (95, 1712), (96, 1713), (97, 1714), (98, 1715), (99, 1716), (100, 1717), (101, 1718), (102, 1719), (103, 1720), (104, 1722), (105, 1723), (106, 1724), (107, 1725), (108, 1721), (109, 1726)]
def tab7 : List (Int × Int) := [(33, 33), (34, 34), (35, 35), (36, 36), (37, 37), (38, 38), (39, 39), (40, 40), (41, 41), (42, 42), (43, 43), (44, 44), (45, 45), (46, 46), (47, 47), (48, 48), (49, 49), (50, 50), (51, 51), (52, 52), (53, 53), (54, 54), (55, 55), (56, 56), (57, 57), (58, 58), (59, 59), (60, 60), (61, 61), (62, 62), (63, 63), (64, 1102), (65, 1072), (66, 1073), (67, 1094), (68, 1076), (69, 1077), (70, 1092), (71, 1075), (72, 1093), (73, 1080), (74, 1081), (75, 1082), (76, 1083), (77, 1084), (78, 1085), (79, 1086), (80, 1087), (81, 1103), (82, 1088), (83, 1089), (84, 1090), (85, 1091), (86, 1078), (87, 1074), (88, 1100), (89, 1099), (90, 1079), (91, 1096), (92, 1101), (93, 1097), (94, 1095), (95, 1098), (96, 1070), (97, 1040), (98, 1041), (99, 1062), (100, 1044), (101, 1045), (102, 1060), (103, 1043), (104, 1061), (105, 1048), (106, 1049), (107, 1050), (108, 1051), (109, 1052), (110, 1053), (111, 1054), (112, 1055), (113, 1071), (114, 1056), (115, 1057), (116, 1058), (117, 1059), (118, 1046), (119, 1042), (120, 1068), (121, 1067), (122, 1047), (123, 1064), (124, 1069), (125, 1065), (126, 1063)]
def tab8 : List (Int × Int) := [(64, 1169), (65, 1106), (66, 1107), (67, 1108), (68, 1105), (69, 1109), (70, 1110), (71, 1111), (72, 1112), (73, 1113), (74, 1114), (75, 1115), (76, 1116), (77, 1118), (78, 1119), (80, 1123), (81, 1139), (82, 1141), (83, 1131), (91, 91), (93, 93), (95, 95), (96, 1168), (97, 1026), (98, 1027), (99, 1028), (100, 1025), (101, 1029), (102, 1030), (103, 1031), (104, 1032), (105, 1033), (106, 1034), (107, 1035), (108, 1036), (109, 1038), (110, 1039), (111, 1066), (112, 1122), (113, 1138), (114, 1140), (115, 1130)]
/-- The character of a number, and whether it has one. -/
def look (t : List (Int × Int)) (n : Int) : Int × Bool := match t.find? (fun p => p.1 == n) with
  | some p => (p.2, true)
  | none => (0, false)
theorem look_yes {t : List (Int × Int)} {n r : Int} (h : look t n = (r, true)) : (n, r) ∈ t := by
  unfold look at h
  split at h
  · rename_i p hp
    have h1 := List.find?_some hp
    have h2 := List.mem_of_find?_eq_some hp
    obtain ⟨a, b⟩ := p
    simp at h h1
    subst h h1
    exact h2
  · simp at h
theorem look_no {t : List (Int × Int)} {n r : Int} (h : look t n = (r, false)) : r = 0 := by
  unfold look at h
  split at h
  · simp at h
  · simp at h; exact h.symm
theorem look_hit {t pre rest : List (Int × Int)} {n r : Int} (hA : t = pre ++ (n, r) :: rest) (hp : ∀ p ∈ pre, p.1 ≠ n) : look t n = (r, true) := by
  have : t.find? (fun p => p.1 == n) = some (n, r) := by
    rw [hA, List.find?_append, List.find?_eq_none.2 (fun p h => by simpa using hp p h)]
    simp
  unfold look
  rw [this]
theorem look_miss {t : List (Int × Int)} {n : Int} (hp : ∀ p ∈ t, p.1 ≠ n) : look t n = (0, false) := by
  unfold look
  rw [List.find?_eq_none.2 (fun p h => by simpa using hp p h)]
/-- A list whose characters fit, and are apart. -/
def fine (t : List (Int × Int)) : Bool := t.all (fun p => decide (0 ≤ p.2) && decide (p.2 ≤ 65535)) && t.all (fun p => t.all fun q => (p.2 == q.2) == (p.1 == q.1))
theorem look_fit {t : List (Int × Int)} (ht : fine t = true) {n r : Int} {b : Bool} (h : look t n = (r, b)) : 0 ≤ r ∧ r ≤ 65535 := by
  cases b with
  | true =>
    simp only [fine, Bool.and_eq_true] at ht
    have := List.all_eq_true.1 ht.1 _ (look_yes h)
    simpa using this
  | false => have := look_no h; omega
theorem look_apart {t : List (Int × Int)} (ht : fine t = true) {a b x y : Int} (ha : look t a = (x, true)) (hb : look t b = (y, true)) : (x == y) = (a == b) := by
  simp only [fine, Bool.and_eq_true] at ht
  have h1 := List.all_eq_true.1 ht.2 _ (look_yes ha)
  have h2 := List.all_eq_true.1 h1 _ (look_yes hb)
  exact eq_of_beq h2
theorem fineA : fine tabA = true := by kernel_rfl
theorem fine3 : fine tab3 = true := by kernel_rfl
theorem fine4 : fine tab4 = true := by kernel_rfl
theorem fine5 : fine tab5 = true := by kernel_rfl
theorem fine6 : fine tab6 = true := by kernel_rfl
theorem fine7 : fine tab7 = true := by kernel_rfl
theorem fine8 : fine tab8 = true := by kernel_rfl
theorem tabA_in : tabA.all (fun p => decide (128 ≤ p.2)) = true := by kernel_rfl
theorem tabA_row {p : Int × Int} (h : p ∈ tabA) : 128 ≤ p.2 := by
  have := List.all_eq_true.1 tabA_in p h
  simpa using this
theorem look_97 : look tabA 97 = (768, true) := by kernel_rfl
theorem look_c65 : look tab7 65 = (1072, true) := by kernel_rfl
theorem look_c95 : look tab7 95 = (1098, true) := by kernel_rfl
theorem look_c127 : look tab7 127 = (0, false) := by kernel_rfl
/-- The list of a set. -/
def tabS (s : Nat) : List (Int × Int) := match s with
  | 0 => tab3
  | 1 => tab4
  | 2 => tab5
  | 3 => tab6
  | 4 => tab7
  | _ => tab8
theorem fineS (s : Nat) : fine (tabS s) = true := by
  unfold tabS
  split
  · exact fine3
  · exact fine4
  · exact fine5
  · exact fine6
  · exact fine7
  · exact fine8
theorem cases_all : (List.range 31).all (fun i => (look tab7 (64 + (i : Int))).2 && (look tab7 (96 + (i : Int))).2 && ((look tab7 (64 + (i : Int))).1 == (look tab7 (96 + (i : Int))).1 + 32)) = true := by kernel_rfl
theorem cases_at {k : Int} (h0 : 64 ≤ k) (h1 : k ≤ 94) : ∃ b, look tab7 k = (b + 32, true) ∧ look tab7 (k + 32) = (b, true) := by
  have h := List.all_eq_true.1 cases_all (k - 64).toNat (by simp; omega)
  have e : (64 : Int) + ((k - 64).toNat : Int) = k := by omega
  have e2 : (96 : Int) + ((k - 64).toNat : Int) = k + 32 := by omega
  rw [e, e2] at h
  simp only [Bool.and_eq_true, beq_iff_eq] at h
  refine ⟨(look tab7 (k + 32)).1, ?_, ?_⟩
  · rw [← h.2, ← h.1.1]
  · rw [← h.1.2]

def isD (c : Int) : Bool := decide (48 ≤ c) && decide (c ≤ 57) || decide (65 ≤ c) && decide (c ≤ 70)
def val (c : Int) : Int := if c < 58 then c - 48 else c - 55
theorem isD_true {c : Int} : isD c = true ↔ (48 ≤ c ∧ c ≤ 57) ∨ (65 ≤ c ∧ c ≤ 70) := by simp [isD]
def num (l : List Int) : Int := l.foldl (fun a c => 16 * a + val c) 0
theorem num_snoc (l : List Int) (c : Int) : num (l ++ [c]) = 16 * num l + val c := by simp [num]
theorem D_range {c : Int} (h : isD c = true) : 0 ≤ val c ∧ val c < 16 := by
  rw [isD_true] at h; unfold val; split <;> omega
theorem num_range {l : List Int} (hD : ∀ c ∈ l, isD c = true) (h6 : l.length ≤ 6) : 0 ≤ num l ∧ num l < 16777216 := by
  have key : ∀ k (l : List Int), l.length = k → (∀ c ∈ l, isD c = true) → 0 ≤ num l ∧ num l < 16 ^ k := by
    intro k
    induction k with
    | zero => intro l hl _; rw [List.eq_nil_of_length_eq_zero hl]; simp [num]
    | succ k ih =>
      intro l hl hD
      rcases List.eq_nil_or_concat l with rfl | ⟨t, c, rfl⟩
      · simp at hl
      · have h1 := ih t (by simpa using hl) (fun x hx => hD x (by simp [hx]))
        have h2 := D_range (hD c (by simp))
        rw [List.concat_eq_append, num_snoc]
        have h3 : (16 : Int) ^ (k + 1) = 16 * 16 ^ k := by rw [Int.pow_succ]; omega
        omega
  have h := key l.length l rfl hD
  have h2 : (16 : Int) ^ l.length ≤ 16777216 := by
    rcases (show l.length = 0 ∨ l.length = 1 ∨ l.length = 2 ∨ l.length = 3 ∨ l.length = 4 ∨ l.length = 5 ∨ l.length = 6 by omega) with e | e | e | e | e | e | e <;> rw [e] <;> decide
  omega

end Go.Proofs.YtphnahabonfmmaaGreatDoor.U
namespace Go.Proofs.YtphnahabonfmmaaGreatDoor.U
open Go.RowKit
set_option linter.unusedVariables false

theorem ret_bool {a b : Bool} (h : a = b) : Ending.returned (.bool a) = .returned (.bool b) := by rw [h]
theorem ret_int {k : IntKind} {a b : Int} (h : a = b) : Ending.returned (.int k a) = .returned (.int k b) := by rw [h]

/-- Nothing that was there is changed. -/
def Bel (w w' : World) : Prop := Below w.heap.size w w'
theorem Bel.refl (w : World) : Bel w w := Below.refl _ _
theorem Bel.trans {a b c : World} (h : Bel a b) (k : Bel b c) : Bel a c := Below.trans h (Below.mono k (Below.size h))
theorem Bel.alloc {a w : World} (h : Bel a w) (o : Obj) : Bel a (w.alloc o) := Below.alloc h (Below.size h) o
theorem Bel.drew {a w : World} (h : Bel a w) : Bel a w.drew := Below.drew h
theorem Bel.drewN {a w : World} (h : Bel a w) (n : Nat) : Bel a (w.drewN n) := ⟨h.os, h.tape, h.output, h.size, h.block⟩

/-- A slice's place A holds the numbers l, in blocks below B. -/
def Rd (w : World) (B : Nat) (k : IntKind) (A : Option Addr) (l : List Int) : Prop :=
  ∀ i x, l[i]? = some x → ∃ g off, A = some ⟨g, off, none⟩ ∧ g < B ∧ w.cell? ⟨g, off + i, none⟩ = some (.int k x)

theorem Rd.below {w w' : World} {B : Nat} {k : IntKind} {A : Option Addr} {l : List Int} (h : Rd w B k A l) (hb : Below B w w') : Rd w' B k A l := fun i x hx => by
  obtain ⟨g, off, e, hg, hc⟩ := h i x hx
  exact ⟨g, off, e, hg, (hb.cell (p := ⟨g, off + i, none⟩) hg).trans hc⟩
theorem Rd.more {w : World} {B B' : Nat} {k : IntKind} {A : Option Addr} {l : List Int} (h : Rd w B k A l) (hb : B ≤ B') : Rd w B' k A l := fun i x hx => by
  obtain ⟨g, off, e, hg, hc⟩ := h i x hx
  exact ⟨g, off, e, by omega, hc⟩
theorem cell_block {w : World} {p : Addr} {v : Value} (h : w.cell? p = some v) : p.block < w.heap.size := by
  rcases Nat.lt_or_ge p.block w.heap.size with hlt | hge
  · exact hlt
  · exfalso
    simp [World.cell?, Array.getElem?_eq_none hge] at h
/-- A row reads as it did behind whatever changes nothing that was there. -/
theorem Rd.bel {w w' : World} {B : Nat} {k : IntKind} {A : Option Addr} {l : List Int} (h : Rd w B k A l) (hb : Bel w w') : Rd w' B k A l := fun i x hx => by
  obtain ⟨g, off, e, hg, hc⟩ := h i x hx
  exact ⟨g, off, e, hg, (Below.cell hb (p := ⟨g, off + i, none⟩) (cell_block hc)).trans hc⟩
theorem Rd.alloc {w : World} {B : Nat} {k : IntKind} {A : Option Addr} {l : List Int} (h : Rd w B k A l) (o : Obj) : Rd (w.alloc o) B k A l := h.bel ((Bel.refl _).alloc o)
theorem Rd.drewN {w : World} {B n : Nat} {kd : IntKind} {A : Option Addr} {l : List Int} (h : Rd w B kd A l) : Rd (w.drewN n) B kd A l := h
theorem Rd.here {w : World} {B : Nat} {k : IntKind} {A : Option Addr} {l : List Int} (h : Rd w B k A l) : Rd w w.heap.size k A l := fun i x hx => by
  obtain ⟨g, off, e, hg, hc⟩ := h i x hx
  exact ⟨g, off, e, cell_block hc, hc⟩
theorem Rd.drop {w : World} {B : Nat} {kd : IntKind} {g off k : Nat} {l : List Int} (h : Rd w B kd (some ⟨g, off, none⟩) l) : Rd w B kd (some ⟨g, off + k, none⟩) (l.drop k) := fun i x hx => by
  rw [List.getElem?_drop] at hx
  obtain ⟨g', off', e, hg, hc⟩ := h (k + i) x hx
  cases e
  exact ⟨g, off + k, rfl, hg, by rw [Nat.add_assoc]; exact hc⟩
theorem Rd.take {w : World} {B : Nat} {kd : IntKind} {A : Option Addr} {k : Nat} {l : List Int} (h : Rd w B kd A l) : Rd w B kd A (l.take k) := fun i x hx => by
  rw [List.getElem?_take] at hx
  split at hx
  · exact h i x hx
  · cases hx
theorem Rd.isSome {w : World} {B : Nat} {k : IntKind} {A : Option Addr} {l : List Int} (h : Rd w B k A l) (hl : 0 < l.length) : ∃ g off, A = some ⟨g, off, none⟩ ∧ g < B ∧ g < w.heap.size := by
  obtain ⟨g, off, e, hg, hc⟩ := h 0 l[0] (by simp)
  exact ⟨g, off, e, hg, cell_block hc⟩
theorem Rd.at {w : World} {B g off : Nat} {k : IntKind} {l : List Int} (h : Rd w B k (some ⟨g, off, none⟩) l) {i : Nat} {x : Int} (hx : l[i]? = Option.some x) : w.cell? ⟨g, off + i, none⟩ = Option.some (.int k x) := by
  obtain ⟨g', o', e, _, hc⟩ := h i x hx
  cases e
  exact hc
theorem Rd.nil {w : World} {B : Nat} {k : IntKind} {A : Option Addr} : Rd w B k A [] := fun i x hx => by simp at hx

theorem own_less {w : World} {base base' : Nat} {e : TypeId} {v : Value} {n : Nat} {xs : List Value} (h : w.ownsRow base e 1 v n xs) (hb : base' ≤ base) : w.ownsRow base' e 1 v n xs := by
  refine ⟨h.1, ?_⟩
  rcases h.2 with h | ⟨g, cap, cur, hv, hbg, rest⟩
  · exact .inl h
  · exact .inr ⟨g, cap, cur, hv, by omega, rest⟩
theorem own_keep {base : Nat} {w w' : World} {e : TypeId} {v : Value} {n : Nat} {xs : List Value} (h : w.ownsRow base e 1 v n xs) (hb : Below w.heap.size w w') : w'.ownsRow base e 1 v n xs := by
  refine ⟨h.1, ?_⟩
  rcases h.2 with h | ⟨g, cap, cur, hv, hbg, hg, rest⟩
  · exact .inl h
  · exact .inr ⟨g, cap, cur, hv, hbg, by rw [hb.block g (Array.getElem?_eq_some_iff.1 hg).1]; exact hg, rest⟩

/-- A row of numbers of the call's own. -/
def Own (w : World) (base : Nat) (e : TypeId) (k : IntKind) (v : Value) (l : List Int) : Prop := w.ownsRow base e 1 v l.length (l.map (Value.int k))
theorem Own.keep {w w' : World} {base : Nat} {e : TypeId} {k : IntKind} {v : Value} {l : List Int} (h : Own w base e k v l) (hb : Bel w w') : Own w' base e k v l := own_keep h hb
theorem Own.less {w : World} {base base' : Nat} {e : TypeId} {k : IntKind} {v : Value} {l : List Int} (h : Own w base e k v l) (hb : base' ≤ base) : Own w base' e k v l := own_less h hb
theorem Own.nil (w : World) (base : Nat) (e : TypeId) (k : IntKind) : Own w base e k (.slice none 0 0) [] := World.ownsRow_nil _ _ _ _
/-- It reads as a slice. -/
theorem Own.rd {w : World} {base : Nat} {e : TypeId} {k : IntKind} {v : Value} {l : List Int} (h : Own w base e k v l) :
    ∃ A cap, v = .slice A l.length cap ∧ l.length ≤ cap ∧ Rd w w.heap.size k A l ∧ (A = none → cap = 0) := by
  rcases h.2 with ⟨rfl, h0⟩ | ⟨g, cap, cur, rfl, hb, hg, hc, _, _, _⟩
  · refine ⟨none, 0, by rw [h0], by omega, fun i x hx => ?_, fun _ => rfl⟩
    have : l = [] := List.eq_nil_of_length_eq_zero h0
    subst this
    simp at hx
  · refine ⟨_, cap, rfl, hc, fun i x hx => ⟨g, 0, rfl, (Array.getElem?_eq_some_iff.1 hg).1, ?_⟩, fun e => by cases e⟩
    have := World.ownsRow.cells h (g := g) rfl i (.int k x) (by simp [hx])
    have hadd : (⟨g, 0, none⟩ : Addr).add i = ⟨g, 0 + i, none⟩ := by unfold Addr.add; split <;> simp_all
    rw [hadd] at this
    exact this
theorem Own.empty (w : World) (e : TypeId) (k : IntKind) : Own (w.alloc (.cells #[] e)) w.heap.size e k (.slice (some ⟨w.heap.size, 0, none⟩) 0 0) [] :=
  World.ownsRow_made w #[] 0 (Nat.le_refl _) (Nat.zero_le _) rfl

/-- What came in as a slice of numbers. -/
def Came (k : IntKind) (w : World) (a : Option Addr) (len cap : Nat) (l : List Int) : Prop :=
  l.length = len ∧ len ≤ cap ∧ Rd w w.heap.size k a l ∧ (a = none → cap = 0) ∧ ∀ x ∈ l, (Lit.int k x).wf = true

theorem addr_add (g off j : Nat) : (⟨g, off, none⟩ : Addr).add j = ⟨g, off + j, none⟩ := by unfold Addr.add; split <;> simp_all
theorem one_cells (k : IntKind) (l : List Int) : ∀ u ∈ l.map (Value.int k), u.oneCell' = true := fun u hu => by
  obtain ⟨x, _, rfl⟩ := List.mem_map.1 hu; rfl

theorem came_of {k : IntKind} {w : World} {a : Option Addr} {len cap : Nat} {zs : List Int}
    (h : (a = none ∧ len = 0 ∧ cap = 0 ∧ zs = []) ∨ ∃ x, a = some x ∧ len ≤ cap ∧ cap ≤ maxLen ∧ zs.length = cap ∧ (∀ i, i < zs.length → w.cell? (x.add i) = some (.int k (zs.getD i 0))) ∧ ∀ n ∈ zs, (Lit.int k n).wf = true) :
    ∃ l, Came k w a len cap l := by
  rcases h with ⟨rfl, rfl, rfl, rfl⟩ | ⟨x, rfl, hl, _, hz, hc, hw⟩
  · exact ⟨[], rfl, Nat.le_refl _, fun i x hx => by simp at hx, fun _ => rfl, by simp⟩
  · refine ⟨zs.take len, by simp; omega, hl, fun i y hy => ?_, (fun e => by cases e), fun y hy => hw y (List.mem_of_mem_take hy)⟩
    rw [List.getElem?_take] at hy
    split at hy
    · rename_i hi
      have h1 := hc i (by omega)
      have h2 : zs.getD i 0 = y := by simp [List.getD, hy]
      rw [h2] at h1
      have h3 := hc 0 (by omega)
      obtain ⟨b, o, sp⟩ := x
      have hsp : sp = none := by simpa [Addr.add] using World.cell?_spot h3
      subst hsp
      rw [addr_add] at h1
      exact ⟨b, o, rfl, cell_block h1, h1⟩
    · cases hy

section
variable {P : Program} {w : World}

/-- 'append' onto a row of the call's own, from a slice that reads as numbers, nil or not: the row is longer by these, and nothing below its base is changed. -/
theorem run_append {t ty e : TypeId} {base : Nat} {i : TypeInfo} {z : Value} {bytes : Nat} (ht : P.underlying t = some (.slice e)) (hi : P.info? e = some i) (hz : i.zero = some z)
    (hsize : i.size = 1) (hby : i.bytes = bytes) (hzs : z.cells.size = 1) (hb8 : bytes ≤ 8)
    {k : IntKind} {v : Value} {xs : List Int} (hown : Own w base e k v xs)
    {B : Nat} {A : Option Addr} {m c : Nat} {ys : List Int} (hr : Rd w B k A ys) (hm : ys.length = m) (hnil : A = none → c = 0)
    (hn : xs.length + m ≤ 100000) (hbase : base ≤ w.heap.size) :
    ∃ v' w', (Builtin.append_ #[t, t] ty #[v, .slice A m c]).run P w = .ok v' w' ∧ Own w' base e k v' (xs ++ ys) ∧ Below base w w' := by
  have h63 : xs.length + m ≤ maxLen := by simp only [maxLen]; omega
  have hbytes : (xs.length + m) * bytes ≤ 140737488355328 := Nat.le_trans (Nat.mul_le_mul hn hb8) (by decide)
  have fin : ∀ v' w', w'.ownsRow base e 1 v' (xs.length + m) (xs.map (Value.int k) ++ ys.map (Value.int k)) → w.grownBy w' v.ownBlock → Own w' base e k v' (xs ++ ys) ∧ Below base w w' := by
    intro v' w' h2 h3
    refine ⟨by unfold Own; simpa [hm] using h2, (Below.refl _ _).grown h3 hbase fun g hg => (World.ownsRow.lt hown g hg).1⟩
  rcases A with _ | ad
  · obtain rfl : c = 0 := hnil rfl
    have hy : ys = [] := by
      rcases ys with _ | ⟨y, ys⟩
      · rfl
      · obtain ⟨_, _, e, _⟩ := hr 0 y rfl
        cases e
    subst hy
    obtain rfl : m = 0 := by simpa using hm.symm
    exact ⟨v, w, run_append_owned_none w base t ty e i 1 ht hi v _ _ hown, by simpa using hown, Below.refl _ _⟩
  · have hnews : ∀ j u, (ys.map (Value.int k))[j]? = some u → w.cell? (ad.add j) = some u := by
      intro j u hu
      rw [List.getElem?_map] at hu
      obtain ⟨y, hy, rfl⟩ := Option.map_eq_some_iff.1 hu
      obtain ⟨g, off, e, _, hc⟩ := hr j y hy
      cases e
      rw [addr_add]; exact hc
    obtain ⟨v', w', h1, h2, h3, _⟩ := run_append_own_at (P := P) w base t ty e i z 1 bytes ht hi hz hsize hby hzs (by omega) v _ _ hown ad m c (ys.map (Value.int k)) (by simp [hm]) hnews (one_cells k ys) h63 hbytes hbase
    exact ⟨v', w', h1, fin v' w' h2 h3⟩

theorem wp_append {o : Oper} {a : Act} {K : Act → World → Prop} {Q : Exit → Act → World → Prop} (s x : Operand) (t : TypeId)
    (ho : o.op = .call { callee := .builtin .append, args := #[s, x], argTypes := #[t, t] })
    {e : TypeId} {base : Nat} {i : TypeInfo} {z : Value} {bytes : Nat} (ht : P.underlying t = some (.slice e)) (hi : P.info? e = some i) (hz : i.zero = some z)
    (hsize : i.size = 1) (hby : i.bytes = bytes) (hzs : z.cells.size = 1) (hb8 : bytes ≤ 8)
    {k : IntKind} {v : Value} {xs : List Int} (hown : Own w base e k v xs) (hs : a.eval s = v)
    {B : Nat} {A : Option Addr} {m c : Nat} {ys : List Int} (hr : Rd w B k A ys) (hx : a.eval x = .slice A m c) (hm : ys.length = m) (hnil : A = none → c = 0)
    (hn : xs.length + m ≤ 100000) (hbase : base ≤ w.heap.size)
    (h : ∀ v' w', Own w' base e k v' (xs ++ ys) → Below base w w' → K (a.put o.dst v') w') : o.wp P a w K Q := by
  obtain ⟨v', w', hrun, h2, h3⟩ := run_append (P := P) (ty := o.type) ht hi hz hsize hby hzs hb8 hown hr hm hnil hn hbase
  unfold Oper.wp execOp
  simp only [ho, resolve, invoke, builtin, Sem.run_bind, Sem.run_pure, Result.andThen_ok, List.map_toArray, List.map_cons, List.map_nil, hs, hx, hrun]
  exact h v' w' h2 h3

theorem wpl_append {ops : Array Oper} {rest : List Oper} {o : Oper} {a : Act} {Q : Exit → Act → World → Prop} (hw : Region.wanted o (yielded ops a.tmps) = true) (s x : Operand) (t : TypeId)
    (ho : o.op = .call { callee := .builtin .append, args := #[s, x], argTypes := #[t, t] })
    {e : TypeId} {base : Nat} {i : TypeInfo} {z : Value} {bytes : Nat} (ht : P.underlying t = some (.slice e)) (hi : P.info? e = some i) (hz : i.zero = some z)
    (hsize : i.size = 1) (hby : i.bytes = bytes) (hzs : z.cells.size = 1) (hb8 : bytes ≤ 8)
    {k : IntKind} {v : Value} {xs : List Int} (hown : Own w base e k v xs) (hs : a.eval s = v)
    {B : Nat} {A : Option Addr} {m c : Nat} {ys : List Int} (hr : Rd w B k A ys) (hx : a.eval x = .slice A m c) (hm : ys.length = m) (hnil : A = none → c = 0)
    (hn : xs.length + m ≤ 100000) (hbase : base ≤ w.heap.size)
    (h : ∀ v' w', Own w' base e k v' (xs ++ ys) → Below base w w' → wpList P ops Q rest (a.put o.dst v') w') : wpList P ops Q (o :: rest) a w :=
  BigFrame.wpList_want hw fun _ hK => wp_append s x t ho ht hi hz hsize hby hzs hb8 hown hs hr hx hm hnil hn hbase fun v' w' h2 h3 => hK _ _ (h v' w' h2 h3)
end

/-- Numbers as a string. -/
def bs (l : List Int) : List UInt8 := l.map fun x => UInt8.ofNat x.toNat
def str (l : List Int) : ByteArray := ⟨(bs l).toArray⟩
theorem bs_length (l : List Int) : (bs l).length = l.length := by simp [bs]
theorem str_size (l : List Int) : (str l).size = l.length := by simp [str, ByteArray.size, bs]
theorem bs_append (a b : List Int) : bs (a ++ b) = bs a ++ bs b := by simp [bs]
theorem toNat_of {x : Int} (h0 : 0 ≤ x) (h1 : x < 256) : (UInt8.ofNat x.toNat).toNat = x.toNat := by
  simp; omega
section
variable {P : Program}

/-- 'string(b)' of bytes. -/
theorem run_str_bytes (w : World) (src dst e : TypeId) (hs : P.underlying src = some (.slice e)) (he : P.underlying e = some (.int .u8)) (hd : P.underlying dst = some .string)
    {B : Nat} {g off n c : Nat} {l : List Int} (h : Rd w B .u8 (some ⟨g, off, none⟩) l) (hn : l.length = n) (hl : ∀ x ∈ l, 0 ≤ x ∧ x < 256) :
    (convert src dst (.slice (some ⟨g, off, none⟩) n c)).run P w = .ok (.string (str l)) w := by
  have e1 : n = (bs l).length := by rw [bs_length, hn]
  rw [e1]
  refine run_convert_bytes_back w src dst e ⟨g, off, none⟩ c (bs l) hs he hd fun j hj => ?_
  have hj' : j < l.length := by rwa [bs_length] at hj
  have := h.at (i := j) (x := l[j]) (List.getElem?_eq_getElem hj')
  rw [addr_add, this]
  simp only [bs, List.getElem_map]
  have hx := hl l[j] (List.getElem_mem hj')
  rw [toNat_of hx.1 hx.2]
  congr 2
  omega

/-- '[]byte(s)': read alone. -/
theorem run_bytes_str (w : World) (src dst e : TypeId) (hs : P.underlying src = some .string) (hd : P.underlying dst = some (.slice e)) (he : P.underlying e = some (.int .u8))
    {l : List Int} {n : Nat} (h : ∀ x ∈ l, 0 ≤ x ∧ x < 256) (hl : l.length = n) :
    ∃ cap w', (convert src dst (.string (str l))).run P w = .ok (.slice (some ⟨w.heap.size, 0, none⟩) n cap) w' ∧ Rd w' (w.heap.size + 1) .u8 (some ⟨w.heap.size, 0, none⟩) l ∧ Bel w w' := by
  have hrun := run_bytes_of_string (P := P) w src dst e (str l) hs hd he
  rw [str_size, hl] at hrun
  refine ⟨_, _, hrun, fun i x hx => ⟨w.heap.size, 0, rfl, Nat.lt_succ_self _, ?_⟩, (Bel.refl w).drew.alloc _⟩
  have h1 := World.cell?_alloc_mark w.drew (bytesRow (str l) (grownCap w n 0 e)) e ((bytesRow (str l) (grownCap w n 0 e)).size, (bytesRow (str l) (grownCap w n 0 e)).size + 1) i
  have hlt : i < l.length := (List.getElem?_eq_some_iff.1 hx).1
  have h2 := bytesRow_at (str l) (grownCap w n 0 e) i (by simp [str, bs]; exact hlt)
  rw [Nat.zero_add]
  refine h1.trans (h2.trans ?_)
  have hv : l[i] = x := (List.getElem?_eq_some_iff.1 hx).2
  have hb := h x (by rw [← hv]; exact List.getElem_mem hlt)
  simp only [str, bs, List.getElem_toArray, List.getElem_map, hv]
  rw [toNat_of hb.1 hb.2]
  congr 2
  omega

end
/-- A row to which one can append: the call's own, or one that is full. -/
def Ext (w : World) (base : Nat) (e : TypeId) (k : IntKind) (v : Value) (l : List Int) : Prop :=
  Own w base e k v l ∨ ∃ g off, v = .slice (some ⟨g, off, none⟩) l.length l.length ∧ Rd w w.heap.size k (some ⟨g, off, none⟩) l
theorem Ext.keep {w w' : World} {base : Nat} {e : TypeId} {k : IntKind} {v : Value} {l : List Int} (h : Ext w base e k v l) (hb : Bel w w') : Ext w' base e k v l := by
  rcases h with h | ⟨g, off, rfl, hr⟩
  · exact .inl (h.keep hb)
  · exact .inr ⟨g, off, rfl, (hr.bel hb).here⟩
theorem Ext.rd {w : World} {base : Nat} {e : TypeId} {k : IntKind} {v : Value} {l : List Int} (h : Ext w base e k v l) :
    ∃ A cap, v = .slice A l.length cap ∧ l.length ≤ cap ∧ Rd w w.heap.size k A l ∧ (A = none → cap = 0) := by
  rcases h with h | ⟨g, off, rfl, hr⟩
  · exact h.rd
  · exact ⟨_, _, rfl, Nat.le_refl _, hr, fun e => by cases e⟩

section
variable {P : Program} {w : World}
theorem run_append_ext {t ty e : TypeId} {base : Nat} {i : TypeInfo} {z : Value} {bytes : Nat} (ht : P.underlying t = some (.slice e)) (hi : P.info? e = some i) (hz : i.zero = some z)
    (hsize : i.size = 1) (hby : i.bytes = bytes) (hzs : z.cells.size = 1) (hb8 : bytes ≤ 8)
    {k : IntKind} {v : Value} {xs : List Int} (hext : Ext w base e k v xs)
    {B : Nat} {A : Option Addr} {m c : Nat} {ys : List Int} (hr : Rd w B k A ys) (hm : ys.length = m) (hm0 : 0 < m)
    (hn : xs.length + m ≤ 100000) (hbase : base ≤ w.heap.size) :
    ∃ v' w', (Builtin.append_ #[t, t] ty #[v, .slice A m c]).run P w = .ok v' w' ∧ Own w' base e k v' (xs ++ ys) ∧ Below base w w' := by
  obtain ⟨g1, o1, rfl, _, _⟩ := hr.isSome (by omega)
  rcases hext with hown | ⟨g, off, rfl, hr0⟩
  · exact run_append ht hi hz hsize hby hzs hb8 hown hr hm (fun e => by cases e) hn hbase
  · have h63 : xs.length + m ≤ maxLen := by simp only [maxLen]; omega
    have hbytes : (xs.length + m) * bytes ≤ 140737488355328 := Nat.le_trans (Nat.mul_le_mul hn hb8) (by decide)
    have cells : ∀ {B : Nat} {g o : Nat} {l : List Int}, Rd w B k (some ⟨g, o, none⟩) l → ∀ j u, (l.map (Value.int k))[j]? = some u → w.cell? ((⟨g, o, none⟩ : Addr).add j) = some u := by
      intro B g o l hl j u hu
      rw [List.getElem?_map] at hu
      obtain ⟨y, hy, rfl⟩ := Option.map_eq_some_iff.1 hu
      rw [addr_add]; exact hl.at hy
    obtain ⟨v', w', hrun, h2, h3⟩ := run_append_arg_grows (P := P) w t ty e i z 1 bytes ht hi hz hsize hby hzs (by omega) ⟨g, off, none⟩ xs.length xs.length (xs.map (Value.int k)) (by simp) (cells hr0) ⟨g1, o1, none⟩ m c (ys.map (Value.int k)) (by simp [hm]) (cells hr) (by omega) h63 hbytes
    refine ⟨v', w', hrun, ?_, (Below.refl _ _).grown h3 hbase (fun k e => by cases e)⟩
    have := own_less h2 hbase
    unfold Own
    simpa [hm] using this

theorem wpl_append_ext {ops : Array Oper} {rest : List Oper} {o : Oper} {a : Act} {Q : Exit → Act → World → Prop} (hw : Region.wanted o (yielded ops a.tmps) = true) (s x : Operand) (t : TypeId)
    (ho : o.op = .call { callee := .builtin .append, args := #[s, x], argTypes := #[t, t] })
    {e : TypeId} {base : Nat} {i : TypeInfo} {z : Value} {bytes : Nat} (ht : P.underlying t = some (.slice e)) (hi : P.info? e = some i) (hz : i.zero = some z)
    (hsize : i.size = 1) (hby : i.bytes = bytes) (hzs : z.cells.size = 1) (hb8 : bytes ≤ 8)
    {k : IntKind} {v : Value} {xs : List Int} (hown : Ext w base e k v xs) (hs : a.eval s = v)
    {B : Nat} {A : Option Addr} {m c : Nat} {ys : List Int} (hr : Rd w B k A ys) (hx : a.eval x = .slice A m c) (hm : ys.length = m) (hm0 : 0 < m)
    (hn : xs.length + m ≤ 100000) (hbase : base ≤ w.heap.size)
    (h : ∀ v' w', Own w' base e k v' (xs ++ ys) → Below base w w' → wpList P ops Q rest (a.put o.dst v') w') : wpList P ops Q (o :: rest) a w :=
  BigFrame.wpList_want hw fun _ hK => by
    obtain ⟨v', w', hrun, h2, h3⟩ := run_append_ext (P := P) (ty := o.type) (c := c) ht hi hz hsize hby hzs hb8 hown hr hm hm0 hn hbase
    unfold Oper.wp execOp
    simp only [ho, resolve, invoke, builtin, Sem.run_bind, Sem.run_pure, Result.andThen_ok, List.map_toArray, List.map_cons, List.map_nil, hs, hx, hrun]
    exact hK _ _ (h v' w' h2 h3)
end

theorem str_cells {l : List Int} (h : ∀ x ∈ l, 0 ≤ x ∧ x < 256) : Lib.strCells (str l) = l.map (Value.int .u8) := by
  unfold Lib.strCells str bs
  simp only [List.map_map]
  apply List.map_congr_left
  intro x hx
  have := h x hx
  simp only [Function.comp]
  rw [toNat_of this.1 this.2]
  congr 1
  omega

section
variable {P : Program} {w : World}
theorem run_append_str {t u ty e : TypeId} {base : Nat} {i : TypeInfo} (ht : P.underlying t = some (.slice e)) (hu : P.underlying u = some .string) (hi : P.info? e = some i) (hz : i.zero = some (.int .u8 0))
    (hsize : i.size = 1) (hby : i.bytes = 1)
    {v : Value} {xs ys : List Int} (hext : Ext w base e .u8 v xs) (hy : ∀ x ∈ ys, 0 ≤ x ∧ x < 256) (hm0 : 0 < ys.length)
    (hn : xs.length + ys.length ≤ 100000) (hbase : base ≤ w.heap.size) :
    ∃ v' w', (Builtin.append_ #[t, u] ty #[v, .string (str ys)]).run P w = .ok v' w' ∧ Own w' base e .u8 v' (xs ++ ys) ∧ Below base w w' := by
  rcases hext with hown | ⟨g, off, rfl, hr0⟩
  · obtain ⟨v', w', hr, h2, h3, _⟩ := Lib.run_append_own_string (P := P) w base t u ty e i ht hu hi hz hsize hby v _ _ hown (str ys) (by rw [str_size]; simp only [maxLen]; omega) (by rw [str_size]; omega) hbase
    refine ⟨v', w', hr, ?_, (Below.refl _ _).grown h3 hbase fun g hg => (World.ownsRow.lt hown g hg).1⟩
    rw [str_cells hy, str_size] at h2
    unfold Own
    simpa using h2
  · have cells : ∀ j u, (xs.map (Value.int .u8))[j]? = some u → w.cell? ((⟨g, off, none⟩ : Addr).add j) = some u := by
      intro j u hu
      rw [List.getElem?_map] at hu
      obtain ⟨y, hy, rfl⟩ := Option.map_eq_some_iff.1 hu
      rw [addr_add]; exact hr0.at hy
    have hr := Lib.run_append_grow_string (P := P) w t u ty e i (.int .u8 0) ht hu hi hz ⟨g, off, none⟩ xs.length xs.length (xs.map (Value.int .u8)) (by rw [hsize]; simp) cells (str ys) (by rw [str_size]; omega) (by rw [str_size]; omega) (by rw [hby]; exact growslice_fits (by rw [str_size]; omega) (by rw [str_size]; omega))
    rw [str_size, str_cells hy] at hr
    have hge := grownCap_ge w (xs.length + ys.length) xs.length e
    have hcm : grownCap w (xs.length + ys.length) xs.length e ≤ maxLen := grownCap_le_maxLen w _ _ e (by simp only [maxLen]; omega)
    refine ⟨_, _, hr, ⟨by simp, .inr ⟨w.heap.size, _, _, by simp, hbase, heap_alloc_new w.drew _, by simpa using hge, hcm, ?_, ?_⟩⟩, ((Below.refl _ _).drew).alloc hbase _⟩
    · have hz1 : (Value.int IntKind.u8 0).cells.size = 1 := rfl
      simp only [Array.size_append, List.size_toArray, size_zeroCells, hz1, List.length_map]
      omega
    · simp only [Array.toList_append, List.append_assoc]
      rw [← List.append_assoc, ← List.map_append, show ((xs ++ ys).length * 1) = ((xs ++ ys).map (Value.int .u8)).length by simp]
      exact List.take_left
theorem wpl_append_str {ops : Array Oper} {rest : List Oper} {o : Oper} {a : Act} {Q : Exit → Act → World → Prop} (hw : Region.wanted o (yielded ops a.tmps) = true) (s x : Operand) (t u : TypeId)
    (ho : o.op = .call { callee := .builtin .append, args := #[s, x], argTypes := #[t, u] })
    {e : TypeId} {base : Nat} {i : TypeInfo} (ht : P.underlying t = some (.slice e)) (hu : P.underlying u = some .string) (hi : P.info? e = some i) (hz : i.zero = some (.int .u8 0))
    (hsize : i.size = 1) (hby : i.bytes = 1)
    {v : Value} {xs ys : List Int} (hext : Ext w base e .u8 v xs) (hs : a.eval s = v) (hx : a.eval x = .string (str ys)) (hy : ∀ x ∈ ys, 0 ≤ x ∧ x < 256) (hm0 : 0 < ys.length)
    (hn : xs.length + ys.length ≤ 100000) (hbase : base ≤ w.heap.size)
    (h : ∀ v' w', Own w' base e .u8 v' (xs ++ ys) → Below base w w' → wpList P ops Q rest (a.put o.dst v') w') : wpList P ops Q (o :: rest) a w :=
  BigFrame.wpList_want hw fun _ hK => by
    obtain ⟨v', w', hrun, h2, h3⟩ := run_append_str (P := P) (ty := o.type) ht hu hi hz hsize hby hext hy hm0 hn hbase
    unfold Oper.wp execOp
    simp only [ho, resolve, invoke, builtin, Sem.run_bind, Sem.run_pure, Result.andThen_ok, List.map_toArray, List.map_cons, List.map_nil, hs, hx, hrun]
    exact hK _ _ (h v' w' h2 h3)
end
theorem str_extract (l : List Int) (a b : Nat) : (str l).extract a b = str ((l.drop a).take (b - a)) := by
  unfold str
  rw [ByteArray.extract_mk]
  simp only [bs, List.map_take, List.map_drop]
/-- A string as numbers. -/
def sn (S : ByteArray) : List Int := S.data.toList.map fun c => Int.ofNat c.toNat
theorem str_sn (S : ByteArray) : str (sn S) = S := by
  apply ByteArray.ext
  have e : ((fun x : Int => UInt8.ofNat x.toNat) ∘ fun c : UInt8 => Int.ofNat c.toNat) = id := by
    funext c
    simp
  simp only [str, bs, sn, List.map_map, e, List.map_id, Array.toArray_toList]
end Go.Proofs.YtphnahabonfmmaaGreatDoor.U
namespace Go.Proofs.YtphnahabonfmmaaGreatDoor.U
open Go.RowKit
set_option linter.unusedVariables false
set_option maxRecDepth 1000000

/-- The constant strings that a body's operations assign, bind or hand on, in their order. -/
def cst : Operand → List ByteArray
  | .const (.string s) => [s]
  | _ => []
def strOf : Op → List ByteArray
  | .assign x => cst x
  | .makeFunc _ args _ => args.toList.flatMap cst
  | .call c => c.args.toList.flatMap cst
  | _ => []
def strs : Code → List ByteArray
  | .seq a b => strs a ++ strs b
  | .region _ ops _ => ops.toList.flatMap fun o => strOf o.op
  | .block _ c => strs c
  | .cond _ a b => strs a ++ strs b
  | .rangeFunc _ _ a b => strs a ++ strs b
  | _ => []
noncomputable def strAt (f : Func) (i : Nat) : ByteArray := match f.body with
  | some c => (strs c).getD i ByteArray.empty
  | none => ByteArray.empty
/-- The places in the Go text that a body's operations bear, in their order. -/
def poss : Code → List String
  | .seq a b => poss a ++ poss b
  | .region _ ops _ => ops.toList.map (·.pos)
  | .block _ c => poss c
  | .cond _ a b => poss a ++ poss b
  | .rangeFunc _ _ a b => poss a ++ poss b
  | _ => []
noncomputable def posAt (f : Func) (i : Nat) : String := match f.body with
  | some c => (poss c).getD i ""
  | none => ""
def codeA (S : Nat → ByteArray) (p : Nat → String) : Code := ((Code.region 0 #[Oper.mk (some 1) (Op.box 3 (Operand.tmp 0)) 0 (p 0) #[] none, Oper.mk (some 2) (Op.alloc 21) 0 (p 1) #[] none, Oper.mk (some 3) (Op.alloc 4) 0 (p 2) #[] none] false).seq (((Code.region 1 #[Oper.mk (some 6) (Op.load 3 (Operand.tmp 1)) 3 (p 3) #[] none, Oper.mk (some 7) (Op.call (Call.mk (Callee.value (Operand.func 86)) #[Operand.const (Value.string (S 0)), Operand.tmp 6] #[131, 3])) 131 (p 4) #[Edge.mk 0 Ground.data] none, Oper.mk (some 8) (Op.makeFunc (Fn.func 87) #[Operand.tmp 7] #[]) 107 (p 5) #[Edge.mk 1 Ground.data] none] false).seq (Code.block 0 (Code.rangeFunc (Operand.tmp 8) #[9, 10] ((Code.region 2 #[Oper.mk (some 4) (Op.assign (Operand.tmp 9)) 3 (p 6) #[] none] false).seq (Code.region 3 #[Oper.mk (some 5) (Op.assign (Operand.tmp 10)) 21 (p 7) #[] none] false)) (Code.block 1 ((Code.region 4 #[Oper.mk (some 11) (Op.move (Operand.tmp 4)) 3 (p 8) #[] none, Oper.mk (some 12) (Op.load 3 (Operand.tmp 1)) 3 (p 9) #[] none, Oper.mk (some 13) (Op.binOp BinOp.eql 3 (Operand.tmp 11) (Operand.tmp 12) 3) 4 (p 10) #[Edge.mk 0 Ground.data, Edge.mk 1 Ground.data] none] false).seq (Code.cond (Operand.tmp 13) ((Code.region 5 #[Oper.mk (some 14) (Op.move (Operand.tmp 5)) 21 (p 11) #[] none, Oper.mk none (Op.store 21 (Operand.tmp 2) (Operand.tmp 14)) 0 (p 12) #[Edge.mk 0 Ground.data, Edge.mk 0 Ground.phase] none, Oper.mk none (Op.store 4 (Operand.tmp 3) (Operand.const (Value.bool true))) 0 (p 13) #[Edge.mk 1 Ground.chain, Edge.mk 0 Ground.phase, Edge.mk 1 Ground.phase] none] false).seq Code.ret) Code.skip)))))).seq ((Code.region 6 #[Oper.mk none (Op.store 21 (Operand.tmp 2) (Operand.const (Value.int IntKind.i32 0))) 0 (p 14) #[] none, Oper.mk none (Op.store 4 (Operand.tmp 3) (Operand.const (Value.bool false))) 0 (p 15) #[Edge.mk 0 Ground.chain, Edge.mk 0 Ground.phase] none] false).seq Code.ret)))
theorem bodyA : Tryz.f54.body = some (codeA (strAt Tryz.f54) (posAt Tryz.f54)) := by kernel_rfl
def codeL (S : Nat → ByteArray) (p : Nat → String) : Code := ((Code.region 0 #[Oper.mk (some 2) (Op.assign (Operand.const (Value.string (S 0)))) 131 (p 0) #[] none] false).seq (((Code.region 1 #[Oper.mk (some 3) (Op.move (Operand.tmp 0)) 3 (p 1) #[] none] false).seq (Code.block 0 ((Code.region 2 #[Oper.mk (some 5) (Op.binOp BinOp.eql 3 (Operand.tmp 3) (Operand.const (Value.int IntKind.i64 3)) 3) 4 (p 2) #[] none, Oper.mk (some 4) (Op.assign (Operand.tmp 5)) 4 (p 3) #[Edge.mk 0 Ground.data] none] false).seq (Code.cond (Operand.tmp 4) ((Code.region 3 #[Oper.mk (some 2) (Op.assign (Operand.const (Value.string (S 1)))) 131 (p 4) #[] none] false).seq Code.ret) ((Code.region 4 #[Oper.mk (some 7) (Op.binOp BinOp.eql 3 (Operand.tmp 3) (Operand.const (Value.int IntKind.i64 4)) 3) 4 (p 5) #[] none, Oper.mk (some 6) (Op.assign (Operand.tmp 7)) 4 (p 6) #[Edge.mk 0 Ground.data] none] false).seq (Code.cond (Operand.tmp 6) ((Code.region 5 #[Oper.mk (some 2) (Op.assign (Operand.const (Value.string (S 2)))) 131 (p 7) #[] none] false).seq Code.ret) ((Code.region 6 #[Oper.mk (some 9) (Op.binOp BinOp.eql 3 (Operand.tmp 3) (Operand.const (Value.int IntKind.i64 5)) 3) 4 (p 8) #[] none, Oper.mk (some 8) (Op.assign (Operand.tmp 9)) 4 (p 9) #[Edge.mk 0 Ground.data] none] false).seq (Code.cond (Operand.tmp 8) ((Code.region 7 #[Oper.mk (some 2) (Op.assign (Operand.const (Value.string (S 3)))) 131 (p 10) #[] none] false).seq Code.ret) ((Code.region 8 #[Oper.mk (some 11) (Op.binOp BinOp.eql 3 (Operand.tmp 3) (Operand.const (Value.int IntKind.i64 6)) 3) 4 (p 11) #[] none, Oper.mk (some 10) (Op.assign (Operand.tmp 11)) 4 (p 12) #[Edge.mk 0 Ground.data] none] false).seq (Code.cond (Operand.tmp 10) ((Code.region 9 #[Oper.mk (some 2) (Op.assign (Operand.const (Value.string (S 4)))) 131 (p 13) #[] none] false).seq Code.ret) ((Code.region 10 #[Oper.mk (some 13) (Op.binOp BinOp.eql 3 (Operand.tmp 3) (Operand.const (Value.int IntKind.i64 7)) 3) 4 (p 14) #[] none, Oper.mk (some 12) (Op.assign (Operand.tmp 13)) 4 (p 15) #[Edge.mk 0 Ground.data] none] false).seq (Code.cond (Operand.tmp 12) ((Code.region 11 #[Oper.mk (some 2) (Op.assign (Operand.const (Value.string (S 5)))) 131 (p 16) #[] none] false).seq Code.ret) ((Code.region 12 #[Oper.mk (some 15) (Op.binOp BinOp.eql 3 (Operand.tmp 3) (Operand.const (Value.int IntKind.i64 8)) 3) 4 (p 17) #[] none, Oper.mk (some 14) (Op.assign (Operand.tmp 15)) 4 (p 18) #[Edge.mk 0 Ground.data] none] false).seq (Code.cond (Operand.tmp 14) ((Code.region 13 #[Oper.mk (some 2) (Op.assign (Operand.const (Value.string (S 6)))) 131 (p 19) #[] none] false).seq Code.ret) Code.skip)))))))))))))).seq ((Code.region 14 #[Oper.mk (some 2) (Op.assign (Operand.const (Value.string (S 7)))) 131 (p 20) #[] none] false).seq Code.ret)))
theorem bodyL : Tryz.f92.body = some (codeL (strAt Tryz.f92) (posAt Tryz.f92)) := by kernel_rfl

def nm (x : List UInt8) : List Int := x.map fun c => Int.ofNat c.toNat
theorem size_of (l : List UInt8) : (⟨l.toArray⟩ : ByteArray).size = l.length := by simp [ByteArray.size]
theorem str_nm (x : List UInt8) : str (nm x) = ⟨x.toArray⟩ := str_sn ⟨x.toArray⟩
/-- What a word tells. -/
def chr (x : List UInt8) : Int := if (Lib.decodeGo ⟨x.toArray⟩).2 = x.length then ((Lib.decodeGo ⟨x.toArray⟩).1 : Int) else num (nm x)
/-- What words tell, from the number n on. -/
def outW (n : Int) : List (List UInt8) → List (Int × Int)
  | [] => []
  | x :: xs => (if x = [45] then [] else [(n, chr x)]) ++ outW (n + 1) xs
def okW (x : List UInt8) : Bool := decide (1 ≤ x.length) && decide (x.length ≤ 4) && (((Lib.decodeGo ⟨x.toArray⟩).2 == x.length) || ((nm x).all isD && decide (num (nm x) < 65536)))
/-- The pieces of a text between bytes c. -/
def splB (c : UInt8) : List UInt8 → List (List UInt8) → Bool
  | _, [] => false
  | s, [p] => Lib.indexByte s c == -1 && s == p
  | s, p :: q :: r => Lib.indexByte s c == (p.length : Int) && s.take p.length == p && splB c (s.drop (p.length + 1)) (q :: r)
/-- What stands at a place: its character, how many bytes it has, and whether it is white. -/
def stp (s : List UInt8) (i : Nat) : Int × Nat × Bool :=
  if (s.getD i 0).toNat < 128 then (((s.getD i 0).toNat : Int), 1, Lib.isSp (s.getD i 0))
  else (((Lib.decodeGo ⟨(s.drop i).toArray⟩).1 : Int), (Lib.decodeGo ⟨(s.drop i).toArray⟩).2, Lib.isSpaceZ ((Lib.decodeGo ⟨(s.drop i).toArray⟩).1 : Int))
/-- The words of a text from the place i on, of which one began at st (none: below 0). -/
def fsr (s : List UInt8) : Nat → Int → Nat → Option (List (List UInt8))
  | 0, _, _ => none
  | k + 1, st, i =>
    if i < s.length then
      if (1 ≤ (stp s i).2.1 ∧ i + (stp s i).2.1 ≤ s.length) ∧ st ≤ i ∧ (stp s i).1 ≤ 1114111 then
        if (stp s i).2.2 = true then
          if 0 ≤ st then (fsr s k (-1) (i + (stp s i).2.1)).map (((s.take i).drop st.toNat) :: ·) else fsr s k (-1) (i + (stp s i).2.1)
        else if st < 0 then fsr s k i (i + (stp s i).2.1) else fsr s k st (i + (stp s i).2.1)
      else none
    else if i = s.length ∧ st ≤ i then (if 0 ≤ st then some [s.drop st.toNat] else some []) else none
/-- A line: its bytes, these without what is white around them, the first word, what stands behind it, whether there is such, the number, how many blanks, the words. -/
structure Ln where
  l : List UInt8
  t : List UInt8
  h : List UInt8
  ws : List UInt8
  ok : Bool
  st : Int
  k : Nat
  fs : List (List UInt8)
def okLn (x : Ln) : Bool := decide (x.l.length < 1000) && Lib.trimSpaceD x.l == x.t && decide (x.t.length < 1000) && decide (x.ws.length < 1000) && splB 10 x.l [x.l] && fsr x.ws (x.ws.length + 1) (-1) 0 == some x.fs && x.fs.all okW && decide (x.fs.length < 100) && Lib.countByte x.ws 32 == x.k && decide (0 ≤ x.st) && decide (x.st < 65536) &&
  (match x.ok with
   | true => Lib.cut x.t [32] == (x.h, x.ws, true) && (nm x.h).all isD && decide (1 ≤ x.h.length) && decide (x.h.length ≤ 4) && num (nm x.h) == x.st && decide (x.st + x.k < 256)
   | false => Lib.cut x.t [32] == (x.t, [], false) && x.ws == [] && x.st == 0 && x.fs == [])
def noLn : Ln := ⟨[], [], [], [], false, 0, 0, []⟩
theorem noLn_ok : okLn noLn = true := by kernel_rfl
/-- The line that has a word for n. -/
def lineOf (rs : List Ln) (n : Int) : Ln := (rs.find? fun x => x.ok && decide (x.st ≤ n) && decide (n - x.st ≤ x.k)).getD noLn
/-- A text's lines, and that the one line of a number tells of it what the list tells. -/
structure Good (S : ByteArray) (tb : List (Int × Int)) (rs : List Ln) : Prop where
  spl : splB 10 S.data.toList (rs.map (·.l)) = true
  ok : ∀ x ∈ rs, okLn x = true
  tells : ∀ n, look (outW (lineOf rs n).st (lineOf rs n).fs) n = look tb n
theorem lineOf_ok {rs : List Ln} (h : ∀ x ∈ rs, okLn x = true) (n : Int) : okLn (lineOf rs n) = true := by
  unfold lineOf
  cases e : rs.find? fun x => x.ok && decide (x.st ≤ n) && decide (n - x.st ≤ x.k) with
  | none => exact noLn_ok
  | some x => exact h x (List.mem_of_find?_eq_some e)
theorem okLn_room {x : Ln} (h : okLn x = true) (ho : x.ok = true) : 0 ≤ x.st ∧ x.st + x.k < 256 := by
  unfold okLn at h
  rw [ho] at h
  simp only [Bool.and_eq_true, decide_eq_true_eq] at h
  exact ⟨h.1.1.2, h.2.2⟩
theorem good_of {S : ByteArray} {T : List UInt8} {tb : List (Int × Int)} {rs : List Ln} (h : S.data.toList = T) (hs : splB 10 T (rs.map (·.l)) = true) (ho : rs.all okLn = true) (hz : decide (T.length < 4000) = true)
    (hn : (List.range 256).all (fun i => look (outW (lineOf rs (i : Int)).st (lineOf rs (i : Int)).fs) (i : Int) == look tb (i : Int)) = true) (ht : tb.all (fun p => decide (0 ≤ p.1) && decide (p.1 < 256)) = true) (he : look [] 0 = (0, false)) : Good S tb rs := by
  have hok : ∀ x ∈ rs, okLn x = true := fun x hx => List.all_eq_true.1 ho x hx
  refine ⟨by rw [h]; exact hs, hok, fun n => ?_⟩
  by_cases hr : 0 ≤ n ∧ n < 256
  · have := List.all_eq_true.1 hn n.toNat (by simp; omega)
    have e : ((n.toNat : Nat) : Int) = n := by omega
    rw [e] at this
    exact eq_of_beq this
  · have h1 : lineOf rs n = noLn := by
      unfold lineOf
      rw [List.find?_eq_none.2 (fun x hx => ?_)]
      · rfl
      · intro hc
        simp only [Bool.and_eq_true, decide_eq_true_eq] at hc
        have := okLn_room (hok x hx) hc.1.1
        omega
    have h2 : look tb n = (0, false) := look_miss fun p hp e => by
      have := List.all_eq_true.1 ht p hp
      simp only [Bool.and_eq_true, decide_eq_true_eq] at this
      omega
    rw [h1, h2]
    exact look_miss (fun p hp => by simp [noLn, outW] at hp)

def txtA : List UInt8 := [10, 50, 49, 32, 197, 129, 32, 195, 152, 32, 196, 144, 32, 195, 158, 32, 195, 134, 32, 197, 146, 32, 48, 50, 66, 57, 32, 48, 48, 66, 55, 32, 50, 54, 54, 68, 32, 194, 174, 32, 194, 177, 32, 198, 160, 32, 198, 175, 32, 48, 50, 66, 67, 32, 45, 10, 51, 48, 32, 48, 50, 66, 66, 32, 197, 130, 32, 195, 184, 32, 196, 145, 32, 195, 190, 32, 195, 166, 32, 197, 147, 32, 48, 50, 66, 65, 32, 196, 177, 32, 194, 163, 32, 195, 176, 32, 45, 32, 198, 161, 32, 198, 176, 32, 45, 32, 45, 10, 52, 48, 32, 194, 176, 32, 50, 49, 49, 51, 32, 50, 49, 49, 55, 32, 194, 169, 32, 50, 54, 54, 70, 32, 194, 191, 32, 194, 161, 32, 195, 159, 32, 226, 130, 172, 32, 45, 32, 45, 32, 45, 32, 45, 32, 45, 32, 45, 32, 45, 10, 53, 48, 32, 45, 32, 45, 32, 45, 32, 45, 32, 45, 32, 45, 32, 45, 32, 45, 32, 45, 32, 45, 32, 45, 32, 45, 32, 45, 32, 45, 32, 45, 32, 45, 10, 54, 48, 32, 48, 51, 48, 57, 32, 48, 51, 48, 48, 32, 48, 51, 48, 49, 32, 48, 51, 48, 50, 32, 48, 51, 48, 51, 32, 48, 51, 48, 52, 32, 48, 51, 48, 54, 32, 48, 51, 48, 55, 32, 48, 51, 48, 56, 32, 48, 51, 48, 67, 32, 48, 51, 48, 65, 32, 70, 69, 50, 48, 32, 70, 69, 50, 49, 32, 48, 51, 49, 53, 32, 48, 51, 48, 66, 32, 48, 51, 49, 48, 10, 55, 48, 32, 48, 51, 50, 55, 32, 48, 51, 50, 56, 32, 48, 51, 50, 51, 32, 48, 51, 50, 52, 32, 48, 51, 50, 53, 32, 48, 51, 51, 51, 32, 48, 51, 51, 50, 32, 48, 51, 50, 54, 32, 48, 51, 49, 67, 32, 48, 51, 50, 69, 32, 70, 69, 50, 50, 32, 70, 69, 50, 51, 32, 45, 32, 45, 32, 48, 51, 49, 51, 10]
def recsA : List Ln := [⟨[], [], [], [], false, 0, 0, []⟩,
  ⟨[50, 49, 32, 197, 129, 32, 195, 152, 32, 196, 144, 32, 195, 158, 32, 195, 134, 32, 197, 146, 32, 48, 50, 66, 57, 32, 48, 48, 66, 55, 32, 50, 54, 54, 68, 32, 194, 174, 32, 194, 177, 32, 198, 160, 32, 198, 175, 32, 48, 50, 66, 67, 32, 45], [50, 49, 32, 197, 129, 32, 195, 152, 32, 196, 144, 32, 195, 158, 32, 195, 134, 32, 197, 146, 32, 48, 50, 66, 57, 32, 48, 48, 66, 55, 32, 50, 54, 54, 68, 32, 194, 174, 32, 194, 177, 32, 198, 160, 32, 198, 175, 32, 48, 50, 66, 67, 32, 45], [50, 49], [197, 129, 32, 195, 152, 32, 196, 144, 32, 195, 158, 32, 195, 134, 32, 197, 146, 32, 48, 50, 66, 57, 32, 48, 48, 66, 55, 32, 50, 54, 54, 68, 32, 194, 174, 32, 194, 177, 32, 198, 160, 32, 198, 175, 32, 48, 50, 66, 67, 32, 45], true, 33, 14, [[197, 129], [195, 152], [196, 144], [195, 158], [195, 134], [197, 146], [48, 50, 66, 57], [48, 48, 66, 55], [50, 54, 54, 68], [194, 174], [194, 177], [198, 160], [198, 175], [48, 50, 66, 67], [45]]⟩,
  ⟨[51, 48, 32, 48, 50, 66, 66, 32, 197, 130, 32, 195, 184, 32, 196, 145, 32, 195, 190, 32, 195, 166, 32, 197, 147, 32, 48, 50, 66, 65, 32, 196, 177, 32, 194, 163, 32, 195, 176, 32, 45, 32, 198, 161, 32, 198, 176, 32, 45, 32, 45], [51, 48, 32, 48, 50, 66, 66, 32, 197, 130, 32, 195, 184, 32, 196, 145, 32, 195, 190, 32, 195, 166, 32, 197, 147, 32, 48, 50, 66, 65, 32, 196, 177, 32, 194, 163, 32, 195, 176, 32, 45, 32, 198, 161, 32, 198, 176, 32, 45, 32, 45], [51, 48], [48, 50, 66, 66, 32, 197, 130, 32, 195, 184, 32, 196, 145, 32, 195, 190, 32, 195, 166, 32, 197, 147, 32, 48, 50, 66, 65, 32, 196, 177, 32, 194, 163, 32, 195, 176, 32, 45, 32, 198, 161, 32, 198, 176, 32, 45, 32, 45], true, 48, 15, [[48, 50, 66, 66], [197, 130], [195, 184], [196, 145], [195, 190], [195, 166], [197, 147], [48, 50, 66, 65], [196, 177], [194, 163], [195, 176], [45], [198, 161], [198, 176], [45], [45]]⟩,
  ⟨[52, 48, 32, 194, 176, 32, 50, 49, 49, 51, 32, 50, 49, 49, 55, 32, 194, 169, 32, 50, 54, 54, 70, 32, 194, 191, 32, 194, 161, 32, 195, 159, 32, 226, 130, 172, 32, 45, 32, 45, 32, 45, 32, 45, 32, 45, 32, 45, 32, 45], [52, 48, 32, 194, 176, 32, 50, 49, 49, 51, 32, 50, 49, 49, 55, 32, 194, 169, 32, 50, 54, 54, 70, 32, 194, 191, 32, 194, 161, 32, 195, 159, 32, 226, 130, 172, 32, 45, 32, 45, 32, 45, 32, 45, 32, 45, 32, 45, 32, 45], [52, 48], [194, 176, 32, 50, 49, 49, 51, 32, 50, 49, 49, 55, 32, 194, 169, 32, 50, 54, 54, 70, 32, 194, 191, 32, 194, 161, 32, 195, 159, 32, 226, 130, 172, 32, 45, 32, 45, 32, 45, 32, 45, 32, 45, 32, 45, 32, 45], true, 64, 15, [[194, 176], [50, 49, 49, 51], [50, 49, 49, 55], [194, 169], [50, 54, 54, 70], [194, 191], [194, 161], [195, 159], [226, 130, 172], [45], [45], [45], [45], [45], [45], [45]]⟩,
  ⟨[53, 48, 32, 45, 32, 45, 32, 45, 32, 45, 32, 45, 32, 45, 32, 45, 32, 45, 32, 45, 32, 45, 32, 45, 32, 45, 32, 45, 32, 45, 32, 45, 32, 45], [53, 48, 32, 45, 32, 45, 32, 45, 32, 45, 32, 45, 32, 45, 32, 45, 32, 45, 32, 45, 32, 45, 32, 45, 32, 45, 32, 45, 32, 45, 32, 45, 32, 45], [53, 48], [45, 32, 45, 32, 45, 32, 45, 32, 45, 32, 45, 32, 45, 32, 45, 32, 45, 32, 45, 32, 45, 32, 45, 32, 45, 32, 45, 32, 45, 32, 45], true, 80, 15, [[45], [45], [45], [45], [45], [45], [45], [45], [45], [45], [45], [45], [45], [45], [45], [45]]⟩,
  ⟨[54, 48, 32, 48, 51, 48, 57, 32, 48, 51, 48, 48, 32, 48, 51, 48, 49, 32, 48, 51, 48, 50, 32, 48, 51, 48, 51, 32, 48, 51, 48, 52, 32, 48, 51, 48, 54, 32, 48, 51, 48, 55, 32, 48, 51, 48, 56, 32, 48, 51, 48, 67, 32, 48, 51, 48, 65, 32, 70, 69, 50, 48, 32, 70, 69, 50, 49, 32, 48, 51, 49, 53, 32, 48, 51, 48, 66, 32, 48, 51, 49, 48], [54, 48, 32, 48, 51, 48, 57, 32, 48, 51, 48, 48, 32, 48, 51, 48, 49, 32, 48, 51, 48, 50, 32, 48, 51, 48, 51, 32, 48, 51, 48, 52, 32, 48, 51, 48, 54, 32, 48, 51, 48, 55, 32, 48, 51, 48, 56, 32, 48, 51, 48, 67, 32, 48, 51, 48, 65, 32, 70, 69, 50, 48, 32, 70, 69, 50, 49, 32, 48, 51, 49, 53, 32, 48, 51, 48, 66, 32, 48, 51, 49, 48], [54, 48], [48, 51, 48, 57, 32, 48, 51, 48, 48, 32, 48, 51, 48, 49, 32, 48, 51, 48, 50, 32, 48, 51, 48, 51, 32, 48, 51, 48, 52, 32, 48, 51, 48, 54, 32, 48, 51, 48, 55, 32, 48, 51, 48, 56, 32, 48, 51, 48, 67, 32, 48, 51, 48, 65, 32, 70, 69, 50, 48, 32, 70, 69, 50, 49, 32, 48, 51, 49, 53, 32, 48, 51, 48, 66, 32, 48, 51, 49, 48], true, 96, 15, [[48, 51, 48, 57], [48, 51, 48, 48], [48, 51, 48, 49], [48, 51, 48, 50], [48, 51, 48, 51], [48, 51, 48, 52], [48, 51, 48, 54], [48, 51, 48, 55], [48, 51, 48, 56], [48, 51, 48, 67], [48, 51, 48, 65], [70, 69, 50, 48], [70, 69, 50, 49], [48, 51, 49, 53], [48, 51, 48, 66], [48, 51, 49, 48]]⟩,
  ⟨[55, 48, 32, 48, 51, 50, 55, 32, 48, 51, 50, 56, 32, 48, 51, 50, 51, 32, 48, 51, 50, 52, 32, 48, 51, 50, 53, 32, 48, 51, 51, 51, 32, 48, 51, 51, 50, 32, 48, 51, 50, 54, 32, 48, 51, 49, 67, 32, 48, 51, 50, 69, 32, 70, 69, 50, 50, 32, 70, 69, 50, 51, 32, 45, 32, 45, 32, 48, 51, 49, 51], [55, 48, 32, 48, 51, 50, 55, 32, 48, 51, 50, 56, 32, 48, 51, 50, 51, 32, 48, 51, 50, 52, 32, 48, 51, 50, 53, 32, 48, 51, 51, 51, 32, 48, 51, 51, 50, 32, 48, 51, 50, 54, 32, 48, 51, 49, 67, 32, 48, 51, 50, 69, 32, 70, 69, 50, 50, 32, 70, 69, 50, 51, 32, 45, 32, 45, 32, 48, 51, 49, 51], [55, 48], [48, 51, 50, 55, 32, 48, 51, 50, 56, 32, 48, 51, 50, 51, 32, 48, 51, 50, 52, 32, 48, 51, 50, 53, 32, 48, 51, 51, 51, 32, 48, 51, 51, 50, 32, 48, 51, 50, 54, 32, 48, 51, 49, 67, 32, 48, 51, 50, 69, 32, 70, 69, 50, 50, 32, 70, 69, 50, 51, 32, 45, 32, 45, 32, 48, 51, 49, 51], true, 112, 14, [[48, 51, 50, 55], [48, 51, 50, 56], [48, 51, 50, 51], [48, 51, 50, 52], [48, 51, 50, 53], [48, 51, 51, 51], [48, 51, 51, 50], [48, 51, 50, 54], [48, 51, 49, 67], [48, 51, 50, 69], [70, 69, 50, 50], [70, 69, 50, 51], [45], [45], [48, 51, 49, 51]]⟩,
  ⟨[], [], [], [], false, 0, 0, []⟩]
noncomputable def SA : ByteArray := strAt Tryz.f54 0
theorem goodA : Good SA tabA recsA := good_of (T := txtA) (by kernel_rfl) (by kernel_rfl) (by kernel_rfl) (by kernel_rfl) (by kernel_rfl) (by kernel_rfl) (by kernel_rfl)
def txt3 : List UInt8 := [10, 50, 49, 32, 48, 51, 48, 48, 32, 48, 51, 48, 49, 32, 48, 51, 48, 56, 32, 48, 51, 52, 50, 32, 48, 51, 49, 51, 32, 48, 51, 49, 52, 32, 48, 51, 52, 53, 32, 45, 32, 45, 32, 45, 32, 45, 32, 45, 32, 45, 32, 45, 32, 45, 10, 51, 48, 32, 48, 48, 65, 66, 32, 48, 48, 66, 66, 32, 50, 48, 49, 67, 32, 50, 48, 49, 68, 32, 48, 51, 55, 52, 32, 48, 51, 55, 53, 32, 45, 32, 45, 32, 45, 32, 45, 32, 45, 32, 48, 51, 56, 55, 32, 45, 32, 45, 32, 45, 32, 48, 51, 55, 69, 10, 52, 48, 32, 45, 32, 206, 145, 32, 206, 146, 32, 45, 32, 206, 147, 32, 206, 148, 32, 206, 149, 32, 48, 51, 68, 65, 32, 48, 51, 68, 67, 32, 206, 150, 32, 206, 151, 32, 206, 152, 32, 206, 153, 32, 206, 154, 32, 206, 155, 32, 206, 156, 10, 53, 48, 32, 206, 157, 32, 206, 158, 32, 206, 159, 32, 206, 160, 32, 48, 51, 68, 69, 32, 206, 161, 32, 206, 163, 32, 45, 32, 206, 164, 32, 206, 165, 32, 206, 166, 32, 206, 167, 32, 206, 168, 32, 206, 169, 32, 48, 51, 69, 48, 32, 45, 10, 54, 48, 32, 45, 32, 206, 177, 32, 206, 178, 32, 48, 51, 68, 48, 32, 206, 179, 32, 206, 180, 32, 206, 181, 32, 48, 51, 68, 66, 32, 48, 51, 68, 68, 32, 206, 182, 32, 206, 183, 32, 206, 184, 32, 206, 185, 32, 206, 186, 32, 206, 187, 32, 206, 188, 10, 55, 48, 32, 206, 189, 32, 206, 190, 32, 206, 191, 32, 207, 128, 32, 48, 51, 68, 70, 32, 207, 129, 32, 207, 131, 32, 207, 130, 32, 207, 132, 32, 207, 133, 32, 207, 134, 32, 207, 135, 32, 207, 136, 32, 207, 137, 32, 48, 51, 69, 49, 10]
def recs3 : List Ln := [⟨[], [], [], [], false, 0, 0, []⟩,
  ⟨[50, 49, 32, 48, 51, 48, 48, 32, 48, 51, 48, 49, 32, 48, 51, 48, 56, 32, 48, 51, 52, 50, 32, 48, 51, 49, 51, 32, 48, 51, 49, 52, 32, 48, 51, 52, 53, 32, 45, 32, 45, 32, 45, 32, 45, 32, 45, 32, 45, 32, 45, 32, 45], [50, 49, 32, 48, 51, 48, 48, 32, 48, 51, 48, 49, 32, 48, 51, 48, 56, 32, 48, 51, 52, 50, 32, 48, 51, 49, 51, 32, 48, 51, 49, 52, 32, 48, 51, 52, 53, 32, 45, 32, 45, 32, 45, 32, 45, 32, 45, 32, 45, 32, 45, 32, 45], [50, 49], [48, 51, 48, 48, 32, 48, 51, 48, 49, 32, 48, 51, 48, 56, 32, 48, 51, 52, 50, 32, 48, 51, 49, 51, 32, 48, 51, 49, 52, 32, 48, 51, 52, 53, 32, 45, 32, 45, 32, 45, 32, 45, 32, 45, 32, 45, 32, 45, 32, 45], true, 33, 14, [[48, 51, 48, 48], [48, 51, 48, 49], [48, 51, 48, 56], [48, 51, 52, 50], [48, 51, 49, 51], [48, 51, 49, 52], [48, 51, 52, 53], [45], [45], [45], [45], [45], [45], [45], [45]]⟩,
  ⟨[51, 48, 32, 48, 48, 65, 66, 32, 48, 48, 66, 66, 32, 50, 48, 49, 67, 32, 50, 48, 49, 68, 32, 48, 51, 55, 52, 32, 48, 51, 55, 53, 32, 45, 32, 45, 32, 45, 32, 45, 32, 45, 32, 48, 51, 56, 55, 32, 45, 32, 45, 32, 45, 32, 48, 51, 55, 69], [51, 48, 32, 48, 48, 65, 66, 32, 48, 48, 66, 66, 32, 50, 48, 49, 67, 32, 50, 48, 49, 68, 32, 48, 51, 55, 52, 32, 48, 51, 55, 53, 32, 45, 32, 45, 32, 45, 32, 45, 32, 45, 32, 48, 51, 56, 55, 32, 45, 32, 45, 32, 45, 32, 48, 51, 55, 69], [51, 48], [48, 48, 65, 66, 32, 48, 48, 66, 66, 32, 50, 48, 49, 67, 32, 50, 48, 49, 68, 32, 48, 51, 55, 52, 32, 48, 51, 55, 53, 32, 45, 32, 45, 32, 45, 32, 45, 32, 45, 32, 48, 51, 56, 55, 32, 45, 32, 45, 32, 45, 32, 48, 51, 55, 69], true, 48, 15, [[48, 48, 65, 66], [48, 48, 66, 66], [50, 48, 49, 67], [50, 48, 49, 68], [48, 51, 55, 52], [48, 51, 55, 53], [45], [45], [45], [45], [45], [48, 51, 56, 55], [45], [45], [45], [48, 51, 55, 69]]⟩,
  ⟨[52, 48, 32, 45, 32, 206, 145, 32, 206, 146, 32, 45, 32, 206, 147, 32, 206, 148, 32, 206, 149, 32, 48, 51, 68, 65, 32, 48, 51, 68, 67, 32, 206, 150, 32, 206, 151, 32, 206, 152, 32, 206, 153, 32, 206, 154, 32, 206, 155, 32, 206, 156], [52, 48, 32, 45, 32, 206, 145, 32, 206, 146, 32, 45, 32, 206, 147, 32, 206, 148, 32, 206, 149, 32, 48, 51, 68, 65, 32, 48, 51, 68, 67, 32, 206, 150, 32, 206, 151, 32, 206, 152, 32, 206, 153, 32, 206, 154, 32, 206, 155, 32, 206, 156], [52, 48], [45, 32, 206, 145, 32, 206, 146, 32, 45, 32, 206, 147, 32, 206, 148, 32, 206, 149, 32, 48, 51, 68, 65, 32, 48, 51, 68, 67, 32, 206, 150, 32, 206, 151, 32, 206, 152, 32, 206, 153, 32, 206, 154, 32, 206, 155, 32, 206, 156], true, 64, 15, [[45], [206, 145], [206, 146], [45], [206, 147], [206, 148], [206, 149], [48, 51, 68, 65], [48, 51, 68, 67], [206, 150], [206, 151], [206, 152], [206, 153], [206, 154], [206, 155], [206, 156]]⟩,
  ⟨[53, 48, 32, 206, 157, 32, 206, 158, 32, 206, 159, 32, 206, 160, 32, 48, 51, 68, 69, 32, 206, 161, 32, 206, 163, 32, 45, 32, 206, 164, 32, 206, 165, 32, 206, 166, 32, 206, 167, 32, 206, 168, 32, 206, 169, 32, 48, 51, 69, 48, 32, 45], [53, 48, 32, 206, 157, 32, 206, 158, 32, 206, 159, 32, 206, 160, 32, 48, 51, 68, 69, 32, 206, 161, 32, 206, 163, 32, 45, 32, 206, 164, 32, 206, 165, 32, 206, 166, 32, 206, 167, 32, 206, 168, 32, 206, 169, 32, 48, 51, 69, 48, 32, 45], [53, 48], [206, 157, 32, 206, 158, 32, 206, 159, 32, 206, 160, 32, 48, 51, 68, 69, 32, 206, 161, 32, 206, 163, 32, 45, 32, 206, 164, 32, 206, 165, 32, 206, 166, 32, 206, 167, 32, 206, 168, 32, 206, 169, 32, 48, 51, 69, 48, 32, 45], true, 80, 15, [[206, 157], [206, 158], [206, 159], [206, 160], [48, 51, 68, 69], [206, 161], [206, 163], [45], [206, 164], [206, 165], [206, 166], [206, 167], [206, 168], [206, 169], [48, 51, 69, 48], [45]]⟩,
  ⟨[54, 48, 32, 45, 32, 206, 177, 32, 206, 178, 32, 48, 51, 68, 48, 32, 206, 179, 32, 206, 180, 32, 206, 181, 32, 48, 51, 68, 66, 32, 48, 51, 68, 68, 32, 206, 182, 32, 206, 183, 32, 206, 184, 32, 206, 185, 32, 206, 186, 32, 206, 187, 32, 206, 188], [54, 48, 32, 45, 32, 206, 177, 32, 206, 178, 32, 48, 51, 68, 48, 32, 206, 179, 32, 206, 180, 32, 206, 181, 32, 48, 51, 68, 66, 32, 48, 51, 68, 68, 32, 206, 182, 32, 206, 183, 32, 206, 184, 32, 206, 185, 32, 206, 186, 32, 206, 187, 32, 206, 188], [54, 48], [45, 32, 206, 177, 32, 206, 178, 32, 48, 51, 68, 48, 32, 206, 179, 32, 206, 180, 32, 206, 181, 32, 48, 51, 68, 66, 32, 48, 51, 68, 68, 32, 206, 182, 32, 206, 183, 32, 206, 184, 32, 206, 185, 32, 206, 186, 32, 206, 187, 32, 206, 188], true, 96, 15, [[45], [206, 177], [206, 178], [48, 51, 68, 48], [206, 179], [206, 180], [206, 181], [48, 51, 68, 66], [48, 51, 68, 68], [206, 182], [206, 183], [206, 184], [206, 185], [206, 186], [206, 187], [206, 188]]⟩,
  ⟨[55, 48, 32, 206, 189, 32, 206, 190, 32, 206, 191, 32, 207, 128, 32, 48, 51, 68, 70, 32, 207, 129, 32, 207, 131, 32, 207, 130, 32, 207, 132, 32, 207, 133, 32, 207, 134, 32, 207, 135, 32, 207, 136, 32, 207, 137, 32, 48, 51, 69, 49], [55, 48, 32, 206, 189, 32, 206, 190, 32, 206, 191, 32, 207, 128, 32, 48, 51, 68, 70, 32, 207, 129, 32, 207, 131, 32, 207, 130, 32, 207, 132, 32, 207, 133, 32, 207, 134, 32, 207, 135, 32, 207, 136, 32, 207, 137, 32, 48, 51, 69, 49], [55, 48], [206, 189, 32, 206, 190, 32, 206, 191, 32, 207, 128, 32, 48, 51, 68, 70, 32, 207, 129, 32, 207, 131, 32, 207, 130, 32, 207, 132, 32, 207, 133, 32, 207, 134, 32, 207, 135, 32, 207, 136, 32, 207, 137, 32, 48, 51, 69, 49], true, 112, 14, [[206, 189], [206, 190], [206, 191], [207, 128], [48, 51, 68, 70], [207, 129], [207, 131], [207, 130], [207, 132], [207, 133], [207, 134], [207, 135], [207, 136], [207, 137], [48, 51, 69, 49]]⟩,
  ⟨[], [], [], [], false, 0, 0, []⟩]
noncomputable def S3 : ByteArray := strAt Tryz.f92 1
theorem good3 : Good S3 tab3 recs3 := good_of (T := txt3) (by kernel_rfl) (by kernel_rfl) (by kernel_rfl) (by kernel_rfl) (by kernel_rfl) (by kernel_rfl) (by kernel_rfl)
def txt4 : List UInt8 := [10, 50, 49, 32, 48, 48, 50, 49, 32, 48, 53, 70, 52, 32, 48, 48, 50, 51, 32, 48, 48, 50, 52, 32, 48, 48, 50, 53, 32, 48, 48, 50, 54, 32, 48, 53, 70, 51, 32, 48, 48, 50, 56, 32, 48, 48, 50, 57, 32, 48, 48, 50, 65, 32, 48, 48, 50, 66, 32, 48, 48, 50, 67, 32, 48, 53, 66, 69, 32, 48, 48, 50, 69, 32, 48, 48, 50, 70, 10, 51, 48, 32, 48, 48, 51, 48, 32, 48, 48, 51, 49, 32, 48, 48, 51, 50, 32, 48, 48, 51, 51, 32, 48, 48, 51, 52, 32, 48, 48, 51, 53, 32, 48, 48, 51, 54, 32, 48, 48, 51, 55, 32, 48, 48, 51, 56, 32, 48, 48, 51, 57, 32, 48, 48, 51, 65, 32, 48, 48, 51, 66, 32, 48, 48, 51, 67, 32, 48, 48, 51, 68, 32, 48, 48, 51, 69, 32, 48, 48, 51, 70, 10, 52, 48, 32, 48, 53, 66, 55, 32, 48, 53, 66, 56, 32, 48, 53, 66, 54, 32, 48, 53, 66, 53, 32, 48, 53, 66, 52, 32, 48, 53, 66, 57, 32, 48, 53, 66, 66, 32, 48, 53, 66, 48, 32, 48, 53, 66, 50, 32, 48, 53, 66, 51, 32, 48, 53, 66, 49, 32, 48, 53, 66, 67, 32, 48, 53, 66, 70, 32, 48, 53, 67, 49, 32, 70, 66, 49, 69, 32, 45, 10, 54, 48, 32, 48, 53, 68, 48, 32, 48, 53, 68, 49, 32, 48, 53, 68, 50, 32, 48, 53, 68, 51, 32, 48, 53, 68, 52, 32, 48, 53, 68, 53, 32, 48, 53, 68, 54, 32, 48, 53, 68, 55, 32, 48, 53, 68, 56, 32, 48, 53, 68, 57, 32, 48, 53, 68, 65, 32, 48, 53, 68, 66, 32, 48, 53, 68, 67, 32, 48, 53, 68, 68, 32, 48, 53, 68, 69, 32, 48, 53, 68, 70, 10, 55, 48, 32, 48, 53, 69, 48, 32, 48, 53, 69, 49, 32, 48, 53, 69, 50, 32, 48, 53, 69, 51, 32, 48, 53, 69, 52, 32, 48, 53, 69, 53, 32, 48, 53, 69, 54, 32, 48, 53, 69, 55, 32, 48, 53, 69, 56, 32, 48, 53, 69, 57, 32, 48, 53, 69, 65, 32, 48, 53, 70, 48, 32, 48, 53, 70, 49, 32, 48, 53, 70, 50, 10]
def recs4 : List Ln := [⟨[], [], [], [], false, 0, 0, []⟩,
  ⟨[50, 49, 32, 48, 48, 50, 49, 32, 48, 53, 70, 52, 32, 48, 48, 50, 51, 32, 48, 48, 50, 52, 32, 48, 48, 50, 53, 32, 48, 48, 50, 54, 32, 48, 53, 70, 51, 32, 48, 48, 50, 56, 32, 48, 48, 50, 57, 32, 48, 48, 50, 65, 32, 48, 48, 50, 66, 32, 48, 48, 50, 67, 32, 48, 53, 66, 69, 32, 48, 48, 50, 69, 32, 48, 48, 50, 70], [50, 49, 32, 48, 48, 50, 49, 32, 48, 53, 70, 52, 32, 48, 48, 50, 51, 32, 48, 48, 50, 52, 32, 48, 48, 50, 53, 32, 48, 48, 50, 54, 32, 48, 53, 70, 51, 32, 48, 48, 50, 56, 32, 48, 48, 50, 57, 32, 48, 48, 50, 65, 32, 48, 48, 50, 66, 32, 48, 48, 50, 67, 32, 48, 53, 66, 69, 32, 48, 48, 50, 69, 32, 48, 48, 50, 70], [50, 49], [48, 48, 50, 49, 32, 48, 53, 70, 52, 32, 48, 48, 50, 51, 32, 48, 48, 50, 52, 32, 48, 48, 50, 53, 32, 48, 48, 50, 54, 32, 48, 53, 70, 51, 32, 48, 48, 50, 56, 32, 48, 48, 50, 57, 32, 48, 48, 50, 65, 32, 48, 48, 50, 66, 32, 48, 48, 50, 67, 32, 48, 53, 66, 69, 32, 48, 48, 50, 69, 32, 48, 48, 50, 70], true, 33, 14, [[48, 48, 50, 49], [48, 53, 70, 52], [48, 48, 50, 51], [48, 48, 50, 52], [48, 48, 50, 53], [48, 48, 50, 54], [48, 53, 70, 51], [48, 48, 50, 56], [48, 48, 50, 57], [48, 48, 50, 65], [48, 48, 50, 66], [48, 48, 50, 67], [48, 53, 66, 69], [48, 48, 50, 69], [48, 48, 50, 70]]⟩,
  ⟨[51, 48, 32, 48, 48, 51, 48, 32, 48, 48, 51, 49, 32, 48, 48, 51, 50, 32, 48, 48, 51, 51, 32, 48, 48, 51, 52, 32, 48, 48, 51, 53, 32, 48, 48, 51, 54, 32, 48, 48, 51, 55, 32, 48, 48, 51, 56, 32, 48, 48, 51, 57, 32, 48, 48, 51, 65, 32, 48, 48, 51, 66, 32, 48, 48, 51, 67, 32, 48, 48, 51, 68, 32, 48, 48, 51, 69, 32, 48, 48, 51, 70], [51, 48, 32, 48, 48, 51, 48, 32, 48, 48, 51, 49, 32, 48, 48, 51, 50, 32, 48, 48, 51, 51, 32, 48, 48, 51, 52, 32, 48, 48, 51, 53, 32, 48, 48, 51, 54, 32, 48, 48, 51, 55, 32, 48, 48, 51, 56, 32, 48, 48, 51, 57, 32, 48, 48, 51, 65, 32, 48, 48, 51, 66, 32, 48, 48, 51, 67, 32, 48, 48, 51, 68, 32, 48, 48, 51, 69, 32, 48, 48, 51, 70], [51, 48], [48, 48, 51, 48, 32, 48, 48, 51, 49, 32, 48, 48, 51, 50, 32, 48, 48, 51, 51, 32, 48, 48, 51, 52, 32, 48, 48, 51, 53, 32, 48, 48, 51, 54, 32, 48, 48, 51, 55, 32, 48, 48, 51, 56, 32, 48, 48, 51, 57, 32, 48, 48, 51, 65, 32, 48, 48, 51, 66, 32, 48, 48, 51, 67, 32, 48, 48, 51, 68, 32, 48, 48, 51, 69, 32, 48, 48, 51, 70], true, 48, 15, [[48, 48, 51, 48], [48, 48, 51, 49], [48, 48, 51, 50], [48, 48, 51, 51], [48, 48, 51, 52], [48, 48, 51, 53], [48, 48, 51, 54], [48, 48, 51, 55], [48, 48, 51, 56], [48, 48, 51, 57], [48, 48, 51, 65], [48, 48, 51, 66], [48, 48, 51, 67], [48, 48, 51, 68], [48, 48, 51, 69], [48, 48, 51, 70]]⟩,
  ⟨[52, 48, 32, 48, 53, 66, 55, 32, 48, 53, 66, 56, 32, 48, 53, 66, 54, 32, 48, 53, 66, 53, 32, 48, 53, 66, 52, 32, 48, 53, 66, 57, 32, 48, 53, 66, 66, 32, 48, 53, 66, 48, 32, 48, 53, 66, 50, 32, 48, 53, 66, 51, 32, 48, 53, 66, 49, 32, 48, 53, 66, 67, 32, 48, 53, 66, 70, 32, 48, 53, 67, 49, 32, 70, 66, 49, 69, 32, 45], [52, 48, 32, 48, 53, 66, 55, 32, 48, 53, 66, 56, 32, 48, 53, 66, 54, 32, 48, 53, 66, 53, 32, 48, 53, 66, 52, 32, 48, 53, 66, 57, 32, 48, 53, 66, 66, 32, 48, 53, 66, 48, 32, 48, 53, 66, 50, 32, 48, 53, 66, 51, 32, 48, 53, 66, 49, 32, 48, 53, 66, 67, 32, 48, 53, 66, 70, 32, 48, 53, 67, 49, 32, 70, 66, 49, 69, 32, 45], [52, 48], [48, 53, 66, 55, 32, 48, 53, 66, 56, 32, 48, 53, 66, 54, 32, 48, 53, 66, 53, 32, 48, 53, 66, 52, 32, 48, 53, 66, 57, 32, 48, 53, 66, 66, 32, 48, 53, 66, 48, 32, 48, 53, 66, 50, 32, 48, 53, 66, 51, 32, 48, 53, 66, 49, 32, 48, 53, 66, 67, 32, 48, 53, 66, 70, 32, 48, 53, 67, 49, 32, 70, 66, 49, 69, 32, 45], true, 64, 15, [[48, 53, 66, 55], [48, 53, 66, 56], [48, 53, 66, 54], [48, 53, 66, 53], [48, 53, 66, 52], [48, 53, 66, 57], [48, 53, 66, 66], [48, 53, 66, 48], [48, 53, 66, 50], [48, 53, 66, 51], [48, 53, 66, 49], [48, 53, 66, 67], [48, 53, 66, 70], [48, 53, 67, 49], [70, 66, 49, 69], [45]]⟩,
  ⟨[54, 48, 32, 48, 53, 68, 48, 32, 48, 53, 68, 49, 32, 48, 53, 68, 50, 32, 48, 53, 68, 51, 32, 48, 53, 68, 52, 32, 48, 53, 68, 53, 32, 48, 53, 68, 54, 32, 48, 53, 68, 55, 32, 48, 53, 68, 56, 32, 48, 53, 68, 57, 32, 48, 53, 68, 65, 32, 48, 53, 68, 66, 32, 48, 53, 68, 67, 32, 48, 53, 68, 68, 32, 48, 53, 68, 69, 32, 48, 53, 68, 70], [54, 48, 32, 48, 53, 68, 48, 32, 48, 53, 68, 49, 32, 48, 53, 68, 50, 32, 48, 53, 68, 51, 32, 48, 53, 68, 52, 32, 48, 53, 68, 53, 32, 48, 53, 68, 54, 32, 48, 53, 68, 55, 32, 48, 53, 68, 56, 32, 48, 53, 68, 57, 32, 48, 53, 68, 65, 32, 48, 53, 68, 66, 32, 48, 53, 68, 67, 32, 48, 53, 68, 68, 32, 48, 53, 68, 69, 32, 48, 53, 68, 70], [54, 48], [48, 53, 68, 48, 32, 48, 53, 68, 49, 32, 48, 53, 68, 50, 32, 48, 53, 68, 51, 32, 48, 53, 68, 52, 32, 48, 53, 68, 53, 32, 48, 53, 68, 54, 32, 48, 53, 68, 55, 32, 48, 53, 68, 56, 32, 48, 53, 68, 57, 32, 48, 53, 68, 65, 32, 48, 53, 68, 66, 32, 48, 53, 68, 67, 32, 48, 53, 68, 68, 32, 48, 53, 68, 69, 32, 48, 53, 68, 70], true, 96, 15, [[48, 53, 68, 48], [48, 53, 68, 49], [48, 53, 68, 50], [48, 53, 68, 51], [48, 53, 68, 52], [48, 53, 68, 53], [48, 53, 68, 54], [48, 53, 68, 55], [48, 53, 68, 56], [48, 53, 68, 57], [48, 53, 68, 65], [48, 53, 68, 66], [48, 53, 68, 67], [48, 53, 68, 68], [48, 53, 68, 69], [48, 53, 68, 70]]⟩,
  ⟨[55, 48, 32, 48, 53, 69, 48, 32, 48, 53, 69, 49, 32, 48, 53, 69, 50, 32, 48, 53, 69, 51, 32, 48, 53, 69, 52, 32, 48, 53, 69, 53, 32, 48, 53, 69, 54, 32, 48, 53, 69, 55, 32, 48, 53, 69, 56, 32, 48, 53, 69, 57, 32, 48, 53, 69, 65, 32, 48, 53, 70, 48, 32, 48, 53, 70, 49, 32, 48, 53, 70, 50], [55, 48, 32, 48, 53, 69, 48, 32, 48, 53, 69, 49, 32, 48, 53, 69, 50, 32, 48, 53, 69, 51, 32, 48, 53, 69, 52, 32, 48, 53, 69, 53, 32, 48, 53, 69, 54, 32, 48, 53, 69, 55, 32, 48, 53, 69, 56, 32, 48, 53, 69, 57, 32, 48, 53, 69, 65, 32, 48, 53, 70, 48, 32, 48, 53, 70, 49, 32, 48, 53, 70, 50], [55, 48], [48, 53, 69, 48, 32, 48, 53, 69, 49, 32, 48, 53, 69, 50, 32, 48, 53, 69, 51, 32, 48, 53, 69, 52, 32, 48, 53, 69, 53, 32, 48, 53, 69, 54, 32, 48, 53, 69, 55, 32, 48, 53, 69, 56, 32, 48, 53, 69, 57, 32, 48, 53, 69, 65, 32, 48, 53, 70, 48, 32, 48, 53, 70, 49, 32, 48, 53, 70, 50], true, 112, 13, [[48, 53, 69, 48], [48, 53, 69, 49], [48, 53, 69, 50], [48, 53, 69, 51], [48, 53, 69, 52], [48, 53, 69, 53], [48, 53, 69, 54], [48, 53, 69, 55], [48, 53, 69, 56], [48, 53, 69, 57], [48, 53, 69, 65], [48, 53, 70, 48], [48, 53, 70, 49], [48, 53, 70, 50]]⟩,
  ⟨[], [], [], [], false, 0, 0, []⟩]
noncomputable def S4 : ByteArray := strAt Tryz.f92 2
theorem good4 : Good S4 tab4 recs4 := good_of (T := txt4) (by kernel_rfl) (by kernel_rfl) (by kernel_rfl) (by kernel_rfl) (by kernel_rfl) (by kernel_rfl) (by kernel_rfl)
def txt5 : List UInt8 := [10, 50, 49, 32, 48, 48, 50, 49, 32, 48, 48, 50, 50, 32, 48, 48, 50, 51, 32, 48, 48, 50, 52, 32, 48, 54, 54, 65, 32, 48, 48, 50, 54, 32, 48, 48, 50, 55, 32, 48, 48, 50, 56, 32, 48, 48, 50, 57, 32, 48, 54, 54, 68, 32, 48, 48, 50, 66, 32, 48, 54, 48, 67, 32, 48, 48, 50, 68, 32, 48, 48, 50, 69, 32, 48, 48, 50, 70, 10, 51, 48, 32, 48, 54, 54, 48, 32, 48, 54, 54, 49, 32, 48, 54, 54, 50, 32, 48, 54, 54, 51, 32, 48, 54, 54, 52, 32, 48, 54, 54, 53, 32, 48, 54, 54, 54, 32, 48, 54, 54, 55, 32, 48, 54, 54, 56, 32, 48, 54, 54, 57, 32, 48, 48, 51, 65, 32, 48, 54, 49, 66, 32, 48, 48, 51, 67, 32, 48, 48, 51, 68, 32, 48, 48, 51, 69, 32, 48, 54, 49, 70, 10, 52, 48, 32, 45, 32, 48, 54, 50, 49, 32, 48, 54, 50, 50, 32, 48, 54, 50, 51, 32, 48, 54, 50, 52, 32, 48, 54, 50, 53, 32, 48, 54, 50, 54, 32, 48, 54, 50, 55, 32, 48, 54, 50, 56, 32, 48, 54, 50, 57, 32, 48, 54, 50, 65, 32, 48, 54, 50, 66, 32, 48, 54, 50, 67, 32, 48, 54, 50, 68, 32, 48, 54, 50, 69, 32, 48, 54, 50, 70, 10, 53, 48, 32, 48, 54, 51, 48, 32, 48, 54, 51, 49, 32, 48, 54, 51, 50, 32, 48, 54, 51, 51, 32, 48, 54, 51, 52, 32, 48, 54, 51, 53, 32, 48, 54, 51, 54, 32, 48, 54, 51, 55, 32, 48, 54, 51, 56, 32, 48, 54, 51, 57, 32, 48, 54, 51, 65, 32, 48, 48, 53, 66, 32, 45, 32, 48, 48, 53, 68, 32, 45, 32, 45, 10, 54, 48, 32, 48, 54, 52, 48, 32, 48, 54, 52, 49, 32, 48, 54, 52, 50, 32, 48, 54, 52, 51, 32, 48, 54, 52, 52, 32, 48, 54, 52, 53, 32, 48, 54, 52, 54, 32, 48, 54, 52, 55, 32, 48, 54, 52, 56, 32, 48, 54, 52, 57, 32, 48, 54, 52, 65, 32, 48, 54, 52, 66, 32, 48, 54, 52, 67, 32, 48, 54, 52, 68, 32, 48, 54, 52, 69, 32, 48, 54, 52, 70, 10, 55, 48, 32, 48, 54, 53, 48, 32, 48, 54, 53, 49, 32, 48, 54, 53, 50, 32, 48, 54, 55, 49, 32, 48, 54, 55, 48, 32, 45, 32, 45, 32, 45, 32, 48, 54, 54, 67, 32, 50, 48, 49, 68, 32, 50, 48, 49, 67, 10]
def recs5 : List Ln := [⟨[], [], [], [], false, 0, 0, []⟩,
  ⟨[50, 49, 32, 48, 48, 50, 49, 32, 48, 48, 50, 50, 32, 48, 48, 50, 51, 32, 48, 48, 50, 52, 32, 48, 54, 54, 65, 32, 48, 48, 50, 54, 32, 48, 48, 50, 55, 32, 48, 48, 50, 56, 32, 48, 48, 50, 57, 32, 48, 54, 54, 68, 32, 48, 48, 50, 66, 32, 48, 54, 48, 67, 32, 48, 48, 50, 68, 32, 48, 48, 50, 69, 32, 48, 48, 50, 70], [50, 49, 32, 48, 48, 50, 49, 32, 48, 48, 50, 50, 32, 48, 48, 50, 51, 32, 48, 48, 50, 52, 32, 48, 54, 54, 65, 32, 48, 48, 50, 54, 32, 48, 48, 50, 55, 32, 48, 48, 50, 56, 32, 48, 48, 50, 57, 32, 48, 54, 54, 68, 32, 48, 48, 50, 66, 32, 48, 54, 48, 67, 32, 48, 48, 50, 68, 32, 48, 48, 50, 69, 32, 48, 48, 50, 70], [50, 49], [48, 48, 50, 49, 32, 48, 48, 50, 50, 32, 48, 48, 50, 51, 32, 48, 48, 50, 52, 32, 48, 54, 54, 65, 32, 48, 48, 50, 54, 32, 48, 48, 50, 55, 32, 48, 48, 50, 56, 32, 48, 48, 50, 57, 32, 48, 54, 54, 68, 32, 48, 48, 50, 66, 32, 48, 54, 48, 67, 32, 48, 48, 50, 68, 32, 48, 48, 50, 69, 32, 48, 48, 50, 70], true, 33, 14, [[48, 48, 50, 49], [48, 48, 50, 50], [48, 48, 50, 51], [48, 48, 50, 52], [48, 54, 54, 65], [48, 48, 50, 54], [48, 48, 50, 55], [48, 48, 50, 56], [48, 48, 50, 57], [48, 54, 54, 68], [48, 48, 50, 66], [48, 54, 48, 67], [48, 48, 50, 68], [48, 48, 50, 69], [48, 48, 50, 70]]⟩,
  ⟨[51, 48, 32, 48, 54, 54, 48, 32, 48, 54, 54, 49, 32, 48, 54, 54, 50, 32, 48, 54, 54, 51, 32, 48, 54, 54, 52, 32, 48, 54, 54, 53, 32, 48, 54, 54, 54, 32, 48, 54, 54, 55, 32, 48, 54, 54, 56, 32, 48, 54, 54, 57, 32, 48, 48, 51, 65, 32, 48, 54, 49, 66, 32, 48, 48, 51, 67, 32, 48, 48, 51, 68, 32, 48, 48, 51, 69, 32, 48, 54, 49, 70], [51, 48, 32, 48, 54, 54, 48, 32, 48, 54, 54, 49, 32, 48, 54, 54, 50, 32, 48, 54, 54, 51, 32, 48, 54, 54, 52, 32, 48, 54, 54, 53, 32, 48, 54, 54, 54, 32, 48, 54, 54, 55, 32, 48, 54, 54, 56, 32, 48, 54, 54, 57, 32, 48, 48, 51, 65, 32, 48, 54, 49, 66, 32, 48, 48, 51, 67, 32, 48, 48, 51, 68, 32, 48, 48, 51, 69, 32, 48, 54, 49, 70], [51, 48], [48, 54, 54, 48, 32, 48, 54, 54, 49, 32, 48, 54, 54, 50, 32, 48, 54, 54, 51, 32, 48, 54, 54, 52, 32, 48, 54, 54, 53, 32, 48, 54, 54, 54, 32, 48, 54, 54, 55, 32, 48, 54, 54, 56, 32, 48, 54, 54, 57, 32, 48, 48, 51, 65, 32, 48, 54, 49, 66, 32, 48, 48, 51, 67, 32, 48, 48, 51, 68, 32, 48, 48, 51, 69, 32, 48, 54, 49, 70], true, 48, 15, [[48, 54, 54, 48], [48, 54, 54, 49], [48, 54, 54, 50], [48, 54, 54, 51], [48, 54, 54, 52], [48, 54, 54, 53], [48, 54, 54, 54], [48, 54, 54, 55], [48, 54, 54, 56], [48, 54, 54, 57], [48, 48, 51, 65], [48, 54, 49, 66], [48, 48, 51, 67], [48, 48, 51, 68], [48, 48, 51, 69], [48, 54, 49, 70]]⟩,
  ⟨[52, 48, 32, 45, 32, 48, 54, 50, 49, 32, 48, 54, 50, 50, 32, 48, 54, 50, 51, 32, 48, 54, 50, 52, 32, 48, 54, 50, 53, 32, 48, 54, 50, 54, 32, 48, 54, 50, 55, 32, 48, 54, 50, 56, 32, 48, 54, 50, 57, 32, 48, 54, 50, 65, 32, 48, 54, 50, 66, 32, 48, 54, 50, 67, 32, 48, 54, 50, 68, 32, 48, 54, 50, 69, 32, 48, 54, 50, 70], [52, 48, 32, 45, 32, 48, 54, 50, 49, 32, 48, 54, 50, 50, 32, 48, 54, 50, 51, 32, 48, 54, 50, 52, 32, 48, 54, 50, 53, 32, 48, 54, 50, 54, 32, 48, 54, 50, 55, 32, 48, 54, 50, 56, 32, 48, 54, 50, 57, 32, 48, 54, 50, 65, 32, 48, 54, 50, 66, 32, 48, 54, 50, 67, 32, 48, 54, 50, 68, 32, 48, 54, 50, 69, 32, 48, 54, 50, 70], [52, 48], [45, 32, 48, 54, 50, 49, 32, 48, 54, 50, 50, 32, 48, 54, 50, 51, 32, 48, 54, 50, 52, 32, 48, 54, 50, 53, 32, 48, 54, 50, 54, 32, 48, 54, 50, 55, 32, 48, 54, 50, 56, 32, 48, 54, 50, 57, 32, 48, 54, 50, 65, 32, 48, 54, 50, 66, 32, 48, 54, 50, 67, 32, 48, 54, 50, 68, 32, 48, 54, 50, 69, 32, 48, 54, 50, 70], true, 64, 15, [[45], [48, 54, 50, 49], [48, 54, 50, 50], [48, 54, 50, 51], [48, 54, 50, 52], [48, 54, 50, 53], [48, 54, 50, 54], [48, 54, 50, 55], [48, 54, 50, 56], [48, 54, 50, 57], [48, 54, 50, 65], [48, 54, 50, 66], [48, 54, 50, 67], [48, 54, 50, 68], [48, 54, 50, 69], [48, 54, 50, 70]]⟩,
  ⟨[53, 48, 32, 48, 54, 51, 48, 32, 48, 54, 51, 49, 32, 48, 54, 51, 50, 32, 48, 54, 51, 51, 32, 48, 54, 51, 52, 32, 48, 54, 51, 53, 32, 48, 54, 51, 54, 32, 48, 54, 51, 55, 32, 48, 54, 51, 56, 32, 48, 54, 51, 57, 32, 48, 54, 51, 65, 32, 48, 48, 53, 66, 32, 45, 32, 48, 48, 53, 68, 32, 45, 32, 45], [53, 48, 32, 48, 54, 51, 48, 32, 48, 54, 51, 49, 32, 48, 54, 51, 50, 32, 48, 54, 51, 51, 32, 48, 54, 51, 52, 32, 48, 54, 51, 53, 32, 48, 54, 51, 54, 32, 48, 54, 51, 55, 32, 48, 54, 51, 56, 32, 48, 54, 51, 57, 32, 48, 54, 51, 65, 32, 48, 48, 53, 66, 32, 45, 32, 48, 48, 53, 68, 32, 45, 32, 45], [53, 48], [48, 54, 51, 48, 32, 48, 54, 51, 49, 32, 48, 54, 51, 50, 32, 48, 54, 51, 51, 32, 48, 54, 51, 52, 32, 48, 54, 51, 53, 32, 48, 54, 51, 54, 32, 48, 54, 51, 55, 32, 48, 54, 51, 56, 32, 48, 54, 51, 57, 32, 48, 54, 51, 65, 32, 48, 48, 53, 66, 32, 45, 32, 48, 48, 53, 68, 32, 45, 32, 45], true, 80, 15, [[48, 54, 51, 48], [48, 54, 51, 49], [48, 54, 51, 50], [48, 54, 51, 51], [48, 54, 51, 52], [48, 54, 51, 53], [48, 54, 51, 54], [48, 54, 51, 55], [48, 54, 51, 56], [48, 54, 51, 57], [48, 54, 51, 65], [48, 48, 53, 66], [45], [48, 48, 53, 68], [45], [45]]⟩,
  ⟨[54, 48, 32, 48, 54, 52, 48, 32, 48, 54, 52, 49, 32, 48, 54, 52, 50, 32, 48, 54, 52, 51, 32, 48, 54, 52, 52, 32, 48, 54, 52, 53, 32, 48, 54, 52, 54, 32, 48, 54, 52, 55, 32, 48, 54, 52, 56, 32, 48, 54, 52, 57, 32, 48, 54, 52, 65, 32, 48, 54, 52, 66, 32, 48, 54, 52, 67, 32, 48, 54, 52, 68, 32, 48, 54, 52, 69, 32, 48, 54, 52, 70], [54, 48, 32, 48, 54, 52, 48, 32, 48, 54, 52, 49, 32, 48, 54, 52, 50, 32, 48, 54, 52, 51, 32, 48, 54, 52, 52, 32, 48, 54, 52, 53, 32, 48, 54, 52, 54, 32, 48, 54, 52, 55, 32, 48, 54, 52, 56, 32, 48, 54, 52, 57, 32, 48, 54, 52, 65, 32, 48, 54, 52, 66, 32, 48, 54, 52, 67, 32, 48, 54, 52, 68, 32, 48, 54, 52, 69, 32, 48, 54, 52, 70], [54, 48], [48, 54, 52, 48, 32, 48, 54, 52, 49, 32, 48, 54, 52, 50, 32, 48, 54, 52, 51, 32, 48, 54, 52, 52, 32, 48, 54, 52, 53, 32, 48, 54, 52, 54, 32, 48, 54, 52, 55, 32, 48, 54, 52, 56, 32, 48, 54, 52, 57, 32, 48, 54, 52, 65, 32, 48, 54, 52, 66, 32, 48, 54, 52, 67, 32, 48, 54, 52, 68, 32, 48, 54, 52, 69, 32, 48, 54, 52, 70], true, 96, 15, [[48, 54, 52, 48], [48, 54, 52, 49], [48, 54, 52, 50], [48, 54, 52, 51], [48, 54, 52, 52], [48, 54, 52, 53], [48, 54, 52, 54], [48, 54, 52, 55], [48, 54, 52, 56], [48, 54, 52, 57], [48, 54, 52, 65], [48, 54, 52, 66], [48, 54, 52, 67], [48, 54, 52, 68], [48, 54, 52, 69], [48, 54, 52, 70]]⟩,
  ⟨[55, 48, 32, 48, 54, 53, 48, 32, 48, 54, 53, 49, 32, 48, 54, 53, 50, 32, 48, 54, 55, 49, 32, 48, 54, 55, 48, 32, 45, 32, 45, 32, 45, 32, 48, 54, 54, 67, 32, 50, 48, 49, 68, 32, 50, 48, 49, 67], [55, 48, 32, 48, 54, 53, 48, 32, 48, 54, 53, 49, 32, 48, 54, 53, 50, 32, 48, 54, 55, 49, 32, 48, 54, 55, 48, 32, 45, 32, 45, 32, 45, 32, 48, 54, 54, 67, 32, 50, 48, 49, 68, 32, 50, 48, 49, 67], [55, 48], [48, 54, 53, 48, 32, 48, 54, 53, 49, 32, 48, 54, 53, 50, 32, 48, 54, 55, 49, 32, 48, 54, 55, 48, 32, 45, 32, 45, 32, 45, 32, 48, 54, 54, 67, 32, 50, 48, 49, 68, 32, 50, 48, 49, 67], true, 112, 10, [[48, 54, 53, 48], [48, 54, 53, 49], [48, 54, 53, 50], [48, 54, 55, 49], [48, 54, 55, 48], [45], [45], [45], [48, 54, 54, 67], [50, 48, 49, 68], [50, 48, 49, 67]]⟩,
  ⟨[], [], [], [], false, 0, 0, []⟩]
noncomputable def S5 : ByteArray := strAt Tryz.f92 3
theorem good5 : Good S5 tab5 recs5 := good_of (T := txt5) (by kernel_rfl) (by kernel_rfl) (by kernel_rfl) (by kernel_rfl) (by kernel_rfl) (by kernel_rfl) (by kernel_rfl)
def txt6 : List UInt8 := [10, 50, 49, 32, 48, 54, 70, 68, 32, 48, 54, 55, 50, 32, 48, 54, 55, 51, 32, 48, 54, 55, 57, 32, 48, 54, 55, 65, 32, 48, 54, 55, 66, 32, 48, 54, 55, 67, 32, 48, 54, 55, 68, 32, 48, 54, 55, 69, 32, 48, 54, 55, 70, 32, 48, 54, 56, 48, 32, 48, 54, 56, 49, 32, 48, 54, 56, 50, 32, 48, 54, 56, 51, 32, 48, 54, 56, 52, 10, 51, 48, 32, 48, 54, 56, 53, 32, 48, 54, 56, 54, 32, 48, 54, 66, 70, 32, 48, 54, 56, 55, 32, 48, 54, 56, 56, 32, 48, 54, 56, 57, 32, 48, 54, 56, 65, 32, 48, 54, 56, 66, 32, 48, 54, 56, 67, 32, 48, 54, 56, 68, 32, 48, 54, 56, 69, 32, 48, 54, 56, 70, 32, 48, 54, 57, 48, 32, 48, 54, 57, 49, 32, 48, 54, 57, 50, 32, 48, 54, 57, 51, 10, 52, 48, 32, 48, 54, 57, 52, 32, 48, 54, 57, 53, 32, 48, 54, 57, 54, 32, 48, 54, 57, 55, 32, 48, 54, 57, 56, 32, 48, 54, 57, 57, 32, 48, 54, 57, 65, 32, 48, 54, 57, 66, 32, 48, 54, 57, 67, 32, 48, 54, 70, 65, 32, 48, 54, 57, 68, 32, 48, 54, 57, 69, 32, 48, 54, 70, 66, 32, 48, 54, 57, 70, 32, 48, 54, 65, 48, 32, 48, 54, 70, 67, 10, 53, 48, 32, 48, 54, 65, 49, 32, 48, 54, 65, 50, 32, 48, 54, 65, 51, 32, 48, 54, 65, 52, 32, 48, 54, 65, 53, 32, 48, 54, 65, 54, 32, 48, 54, 65, 55, 32, 48, 54, 65, 56, 32, 48, 54, 65, 57, 32, 48, 54, 65, 65, 32, 48, 54, 65, 66, 32, 48, 54, 65, 67, 32, 48, 54, 65, 68, 32, 48, 54, 65, 69, 32, 48, 54, 65, 70, 32, 48, 54, 66, 48, 10, 54, 48, 32, 48, 54, 66, 49, 32, 48, 54, 66, 50, 32, 48, 54, 66, 51, 32, 48, 54, 66, 52, 32, 48, 54, 66, 53, 32, 48, 54, 66, 54, 32, 48, 54, 66, 55, 32, 48, 54, 66, 56, 32, 48, 54, 66, 65, 32, 48, 54, 66, 66, 32, 48, 54, 66, 67, 32, 48, 54, 66, 68, 32, 48, 54, 66, 57, 32, 48, 54, 66, 69, 10]
def recs6 : List Ln := [⟨[], [], [], [], false, 0, 0, []⟩,
  ⟨[50, 49, 32, 48, 54, 70, 68, 32, 48, 54, 55, 50, 32, 48, 54, 55, 51, 32, 48, 54, 55, 57, 32, 48, 54, 55, 65, 32, 48, 54, 55, 66, 32, 48, 54, 55, 67, 32, 48, 54, 55, 68, 32, 48, 54, 55, 69, 32, 48, 54, 55, 70, 32, 48, 54, 56, 48, 32, 48, 54, 56, 49, 32, 48, 54, 56, 50, 32, 48, 54, 56, 51, 32, 48, 54, 56, 52], [50, 49, 32, 48, 54, 70, 68, 32, 48, 54, 55, 50, 32, 48, 54, 55, 51, 32, 48, 54, 55, 57, 32, 48, 54, 55, 65, 32, 48, 54, 55, 66, 32, 48, 54, 55, 67, 32, 48, 54, 55, 68, 32, 48, 54, 55, 69, 32, 48, 54, 55, 70, 32, 48, 54, 56, 48, 32, 48, 54, 56, 49, 32, 48, 54, 56, 50, 32, 48, 54, 56, 51, 32, 48, 54, 56, 52], [50, 49], [48, 54, 70, 68, 32, 48, 54, 55, 50, 32, 48, 54, 55, 51, 32, 48, 54, 55, 57, 32, 48, 54, 55, 65, 32, 48, 54, 55, 66, 32, 48, 54, 55, 67, 32, 48, 54, 55, 68, 32, 48, 54, 55, 69, 32, 48, 54, 55, 70, 32, 48, 54, 56, 48, 32, 48, 54, 56, 49, 32, 48, 54, 56, 50, 32, 48, 54, 56, 51, 32, 48, 54, 56, 52], true, 33, 14, [[48, 54, 70, 68], [48, 54, 55, 50], [48, 54, 55, 51], [48, 54, 55, 57], [48, 54, 55, 65], [48, 54, 55, 66], [48, 54, 55, 67], [48, 54, 55, 68], [48, 54, 55, 69], [48, 54, 55, 70], [48, 54, 56, 48], [48, 54, 56, 49], [48, 54, 56, 50], [48, 54, 56, 51], [48, 54, 56, 52]]⟩,
  ⟨[51, 48, 32, 48, 54, 56, 53, 32, 48, 54, 56, 54, 32, 48, 54, 66, 70, 32, 48, 54, 56, 55, 32, 48, 54, 56, 56, 32, 48, 54, 56, 57, 32, 48, 54, 56, 65, 32, 48, 54, 56, 66, 32, 48, 54, 56, 67, 32, 48, 54, 56, 68, 32, 48, 54, 56, 69, 32, 48, 54, 56, 70, 32, 48, 54, 57, 48, 32, 48, 54, 57, 49, 32, 48, 54, 57, 50, 32, 48, 54, 57, 51], [51, 48, 32, 48, 54, 56, 53, 32, 48, 54, 56, 54, 32, 48, 54, 66, 70, 32, 48, 54, 56, 55, 32, 48, 54, 56, 56, 32, 48, 54, 56, 57, 32, 48, 54, 56, 65, 32, 48, 54, 56, 66, 32, 48, 54, 56, 67, 32, 48, 54, 56, 68, 32, 48, 54, 56, 69, 32, 48, 54, 56, 70, 32, 48, 54, 57, 48, 32, 48, 54, 57, 49, 32, 48, 54, 57, 50, 32, 48, 54, 57, 51], [51, 48], [48, 54, 56, 53, 32, 48, 54, 56, 54, 32, 48, 54, 66, 70, 32, 48, 54, 56, 55, 32, 48, 54, 56, 56, 32, 48, 54, 56, 57, 32, 48, 54, 56, 65, 32, 48, 54, 56, 66, 32, 48, 54, 56, 67, 32, 48, 54, 56, 68, 32, 48, 54, 56, 69, 32, 48, 54, 56, 70, 32, 48, 54, 57, 48, 32, 48, 54, 57, 49, 32, 48, 54, 57, 50, 32, 48, 54, 57, 51], true, 48, 15, [[48, 54, 56, 53], [48, 54, 56, 54], [48, 54, 66, 70], [48, 54, 56, 55], [48, 54, 56, 56], [48, 54, 56, 57], [48, 54, 56, 65], [48, 54, 56, 66], [48, 54, 56, 67], [48, 54, 56, 68], [48, 54, 56, 69], [48, 54, 56, 70], [48, 54, 57, 48], [48, 54, 57, 49], [48, 54, 57, 50], [48, 54, 57, 51]]⟩,
  ⟨[52, 48, 32, 48, 54, 57, 52, 32, 48, 54, 57, 53, 32, 48, 54, 57, 54, 32, 48, 54, 57, 55, 32, 48, 54, 57, 56, 32, 48, 54, 57, 57, 32, 48, 54, 57, 65, 32, 48, 54, 57, 66, 32, 48, 54, 57, 67, 32, 48, 54, 70, 65, 32, 48, 54, 57, 68, 32, 48, 54, 57, 69, 32, 48, 54, 70, 66, 32, 48, 54, 57, 70, 32, 48, 54, 65, 48, 32, 48, 54, 70, 67], [52, 48, 32, 48, 54, 57, 52, 32, 48, 54, 57, 53, 32, 48, 54, 57, 54, 32, 48, 54, 57, 55, 32, 48, 54, 57, 56, 32, 48, 54, 57, 57, 32, 48, 54, 57, 65, 32, 48, 54, 57, 66, 32, 48, 54, 57, 67, 32, 48, 54, 70, 65, 32, 48, 54, 57, 68, 32, 48, 54, 57, 69, 32, 48, 54, 70, 66, 32, 48, 54, 57, 70, 32, 48, 54, 65, 48, 32, 48, 54, 70, 67], [52, 48], [48, 54, 57, 52, 32, 48, 54, 57, 53, 32, 48, 54, 57, 54, 32, 48, 54, 57, 55, 32, 48, 54, 57, 56, 32, 48, 54, 57, 57, 32, 48, 54, 57, 65, 32, 48, 54, 57, 66, 32, 48, 54, 57, 67, 32, 48, 54, 70, 65, 32, 48, 54, 57, 68, 32, 48, 54, 57, 69, 32, 48, 54, 70, 66, 32, 48, 54, 57, 70, 32, 48, 54, 65, 48, 32, 48, 54, 70, 67], true, 64, 15, [[48, 54, 57, 52], [48, 54, 57, 53], [48, 54, 57, 54], [48, 54, 57, 55], [48, 54, 57, 56], [48, 54, 57, 57], [48, 54, 57, 65], [48, 54, 57, 66], [48, 54, 57, 67], [48, 54, 70, 65], [48, 54, 57, 68], [48, 54, 57, 69], [48, 54, 70, 66], [48, 54, 57, 70], [48, 54, 65, 48], [48, 54, 70, 67]]⟩,
  ⟨[53, 48, 32, 48, 54, 65, 49, 32, 48, 54, 65, 50, 32, 48, 54, 65, 51, 32, 48, 54, 65, 52, 32, 48, 54, 65, 53, 32, 48, 54, 65, 54, 32, 48, 54, 65, 55, 32, 48, 54, 65, 56, 32, 48, 54, 65, 57, 32, 48, 54, 65, 65, 32, 48, 54, 65, 66, 32, 48, 54, 65, 67, 32, 48, 54, 65, 68, 32, 48, 54, 65, 69, 32, 48, 54, 65, 70, 32, 48, 54, 66, 48], [53, 48, 32, 48, 54, 65, 49, 32, 48, 54, 65, 50, 32, 48, 54, 65, 51, 32, 48, 54, 65, 52, 32, 48, 54, 65, 53, 32, 48, 54, 65, 54, 32, 48, 54, 65, 55, 32, 48, 54, 65, 56, 32, 48, 54, 65, 57, 32, 48, 54, 65, 65, 32, 48, 54, 65, 66, 32, 48, 54, 65, 67, 32, 48, 54, 65, 68, 32, 48, 54, 65, 69, 32, 48, 54, 65, 70, 32, 48, 54, 66, 48], [53, 48], [48, 54, 65, 49, 32, 48, 54, 65, 50, 32, 48, 54, 65, 51, 32, 48, 54, 65, 52, 32, 48, 54, 65, 53, 32, 48, 54, 65, 54, 32, 48, 54, 65, 55, 32, 48, 54, 65, 56, 32, 48, 54, 65, 57, 32, 48, 54, 65, 65, 32, 48, 54, 65, 66, 32, 48, 54, 65, 67, 32, 48, 54, 65, 68, 32, 48, 54, 65, 69, 32, 48, 54, 65, 70, 32, 48, 54, 66, 48], true, 80, 15, [[48, 54, 65, 49], [48, 54, 65, 50], [48, 54, 65, 51], [48, 54, 65, 52], [48, 54, 65, 53], [48, 54, 65, 54], [48, 54, 65, 55], [48, 54, 65, 56], [48, 54, 65, 57], [48, 54, 65, 65], [48, 54, 65, 66], [48, 54, 65, 67], [48, 54, 65, 68], [48, 54, 65, 69], [48, 54, 65, 70], [48, 54, 66, 48]]⟩,
  ⟨[54, 48, 32, 48, 54, 66, 49, 32, 48, 54, 66, 50, 32, 48, 54, 66, 51, 32, 48, 54, 66, 52, 32, 48, 54, 66, 53, 32, 48, 54, 66, 54, 32, 48, 54, 66, 55, 32, 48, 54, 66, 56, 32, 48, 54, 66, 65, 32, 48, 54, 66, 66, 32, 48, 54, 66, 67, 32, 48, 54, 66, 68, 32, 48, 54, 66, 57, 32, 48, 54, 66, 69], [54, 48, 32, 48, 54, 66, 49, 32, 48, 54, 66, 50, 32, 48, 54, 66, 51, 32, 48, 54, 66, 52, 32, 48, 54, 66, 53, 32, 48, 54, 66, 54, 32, 48, 54, 66, 55, 32, 48, 54, 66, 56, 32, 48, 54, 66, 65, 32, 48, 54, 66, 66, 32, 48, 54, 66, 67, 32, 48, 54, 66, 68, 32, 48, 54, 66, 57, 32, 48, 54, 66, 69], [54, 48], [48, 54, 66, 49, 32, 48, 54, 66, 50, 32, 48, 54, 66, 51, 32, 48, 54, 66, 52, 32, 48, 54, 66, 53, 32, 48, 54, 66, 54, 32, 48, 54, 66, 55, 32, 48, 54, 66, 56, 32, 48, 54, 66, 65, 32, 48, 54, 66, 66, 32, 48, 54, 66, 67, 32, 48, 54, 66, 68, 32, 48, 54, 66, 57, 32, 48, 54, 66, 69], true, 96, 13, [[48, 54, 66, 49], [48, 54, 66, 50], [48, 54, 66, 51], [48, 54, 66, 52], [48, 54, 66, 53], [48, 54, 66, 54], [48, 54, 66, 55], [48, 54, 66, 56], [48, 54, 66, 65], [48, 54, 66, 66], [48, 54, 66, 67], [48, 54, 66, 68], [48, 54, 66, 57], [48, 54, 66, 69]]⟩,
  ⟨[], [], [], [], false, 0, 0, []⟩]
noncomputable def S6 : ByteArray := strAt Tryz.f92 4
theorem good6 : Good S6 tab6 recs6 := good_of (T := txt6) (by kernel_rfl) (by kernel_rfl) (by kernel_rfl) (by kernel_rfl) (by kernel_rfl) (by kernel_rfl) (by kernel_rfl)
def txt7 : List UInt8 := [10, 50, 49, 32, 48, 48, 50, 49, 32, 48, 48, 50, 50, 32, 48, 48, 50, 51, 32, 48, 48, 50, 52, 32, 48, 48, 50, 53, 32, 48, 48, 50, 54, 32, 48, 48, 50, 55, 32, 48, 48, 50, 56, 32, 48, 48, 50, 57, 32, 48, 48, 50, 65, 32, 48, 48, 50, 66, 32, 48, 48, 50, 67, 32, 48, 48, 50, 68, 32, 48, 48, 50, 69, 32, 48, 48, 50, 70, 10, 51, 48, 32, 48, 48, 51, 48, 32, 48, 48, 51, 49, 32, 48, 48, 51, 50, 32, 48, 48, 51, 51, 32, 48, 48, 51, 52, 32, 48, 48, 51, 53, 32, 48, 48, 51, 54, 32, 48, 48, 51, 55, 32, 48, 48, 51, 56, 32, 48, 48, 51, 57, 32, 48, 48, 51, 65, 32, 48, 48, 51, 66, 32, 48, 48, 51, 67, 32, 48, 48, 51, 68, 32, 48, 48, 51, 69, 32, 48, 48, 51, 70, 10, 52, 48, 32, 209, 142, 32, 208, 176, 32, 208, 177, 32, 209, 134, 32, 208, 180, 32, 208, 181, 32, 209, 132, 32, 208, 179, 32, 209, 133, 32, 208, 184, 32, 208, 185, 32, 208, 186, 32, 208, 187, 32, 208, 188, 32, 208, 189, 32, 208, 190, 10, 53, 48, 32, 208, 191, 32, 209, 143, 32, 209, 128, 32, 209, 129, 32, 209, 130, 32, 209, 131, 32, 208, 182, 32, 208, 178, 32, 209, 140, 32, 209, 139, 32, 208, 183, 32, 209, 136, 32, 209, 141, 32, 209, 137, 32, 209, 135, 32, 209, 138, 10, 54, 48, 32, 208, 174, 32, 208, 144, 32, 208, 145, 32, 208, 166, 32, 208, 148, 32, 208, 149, 32, 208, 164, 32, 208, 147, 32, 208, 165, 32, 208, 152, 32, 208, 153, 32, 208, 154, 32, 208, 155, 32, 208, 156, 32, 208, 157, 32, 208, 158, 10, 55, 48, 32, 208, 159, 32, 208, 175, 32, 208, 160, 32, 208, 161, 32, 208, 162, 32, 208, 163, 32, 208, 150, 32, 208, 146, 32, 208, 172, 32, 208, 171, 32, 208, 151, 32, 208, 168, 32, 208, 173, 32, 208, 169, 32, 208, 167, 10]
def recs7 : List Ln := [⟨[], [], [], [], false, 0, 0, []⟩,
  ⟨[50, 49, 32, 48, 48, 50, 49, 32, 48, 48, 50, 50, 32, 48, 48, 50, 51, 32, 48, 48, 50, 52, 32, 48, 48, 50, 53, 32, 48, 48, 50, 54, 32, 48, 48, 50, 55, 32, 48, 48, 50, 56, 32, 48, 48, 50, 57, 32, 48, 48, 50, 65, 32, 48, 48, 50, 66, 32, 48, 48, 50, 67, 32, 48, 48, 50, 68, 32, 48, 48, 50, 69, 32, 48, 48, 50, 70], [50, 49, 32, 48, 48, 50, 49, 32, 48, 48, 50, 50, 32, 48, 48, 50, 51, 32, 48, 48, 50, 52, 32, 48, 48, 50, 53, 32, 48, 48, 50, 54, 32, 48, 48, 50, 55, 32, 48, 48, 50, 56, 32, 48, 48, 50, 57, 32, 48, 48, 50, 65, 32, 48, 48, 50, 66, 32, 48, 48, 50, 67, 32, 48, 48, 50, 68, 32, 48, 48, 50, 69, 32, 48, 48, 50, 70], [50, 49], [48, 48, 50, 49, 32, 48, 48, 50, 50, 32, 48, 48, 50, 51, 32, 48, 48, 50, 52, 32, 48, 48, 50, 53, 32, 48, 48, 50, 54, 32, 48, 48, 50, 55, 32, 48, 48, 50, 56, 32, 48, 48, 50, 57, 32, 48, 48, 50, 65, 32, 48, 48, 50, 66, 32, 48, 48, 50, 67, 32, 48, 48, 50, 68, 32, 48, 48, 50, 69, 32, 48, 48, 50, 70], true, 33, 14, [[48, 48, 50, 49], [48, 48, 50, 50], [48, 48, 50, 51], [48, 48, 50, 52], [48, 48, 50, 53], [48, 48, 50, 54], [48, 48, 50, 55], [48, 48, 50, 56], [48, 48, 50, 57], [48, 48, 50, 65], [48, 48, 50, 66], [48, 48, 50, 67], [48, 48, 50, 68], [48, 48, 50, 69], [48, 48, 50, 70]]⟩,
  ⟨[51, 48, 32, 48, 48, 51, 48, 32, 48, 48, 51, 49, 32, 48, 48, 51, 50, 32, 48, 48, 51, 51, 32, 48, 48, 51, 52, 32, 48, 48, 51, 53, 32, 48, 48, 51, 54, 32, 48, 48, 51, 55, 32, 48, 48, 51, 56, 32, 48, 48, 51, 57, 32, 48, 48, 51, 65, 32, 48, 48, 51, 66, 32, 48, 48, 51, 67, 32, 48, 48, 51, 68, 32, 48, 48, 51, 69, 32, 48, 48, 51, 70], [51, 48, 32, 48, 48, 51, 48, 32, 48, 48, 51, 49, 32, 48, 48, 51, 50, 32, 48, 48, 51, 51, 32, 48, 48, 51, 52, 32, 48, 48, 51, 53, 32, 48, 48, 51, 54, 32, 48, 48, 51, 55, 32, 48, 48, 51, 56, 32, 48, 48, 51, 57, 32, 48, 48, 51, 65, 32, 48, 48, 51, 66, 32, 48, 48, 51, 67, 32, 48, 48, 51, 68, 32, 48, 48, 51, 69, 32, 48, 48, 51, 70], [51, 48], [48, 48, 51, 48, 32, 48, 48, 51, 49, 32, 48, 48, 51, 50, 32, 48, 48, 51, 51, 32, 48, 48, 51, 52, 32, 48, 48, 51, 53, 32, 48, 48, 51, 54, 32, 48, 48, 51, 55, 32, 48, 48, 51, 56, 32, 48, 48, 51, 57, 32, 48, 48, 51, 65, 32, 48, 48, 51, 66, 32, 48, 48, 51, 67, 32, 48, 48, 51, 68, 32, 48, 48, 51, 69, 32, 48, 48, 51, 70], true, 48, 15, [[48, 48, 51, 48], [48, 48, 51, 49], [48, 48, 51, 50], [48, 48, 51, 51], [48, 48, 51, 52], [48, 48, 51, 53], [48, 48, 51, 54], [48, 48, 51, 55], [48, 48, 51, 56], [48, 48, 51, 57], [48, 48, 51, 65], [48, 48, 51, 66], [48, 48, 51, 67], [48, 48, 51, 68], [48, 48, 51, 69], [48, 48, 51, 70]]⟩,
  ⟨[52, 48, 32, 209, 142, 32, 208, 176, 32, 208, 177, 32, 209, 134, 32, 208, 180, 32, 208, 181, 32, 209, 132, 32, 208, 179, 32, 209, 133, 32, 208, 184, 32, 208, 185, 32, 208, 186, 32, 208, 187, 32, 208, 188, 32, 208, 189, 32, 208, 190], [52, 48, 32, 209, 142, 32, 208, 176, 32, 208, 177, 32, 209, 134, 32, 208, 180, 32, 208, 181, 32, 209, 132, 32, 208, 179, 32, 209, 133, 32, 208, 184, 32, 208, 185, 32, 208, 186, 32, 208, 187, 32, 208, 188, 32, 208, 189, 32, 208, 190], [52, 48], [209, 142, 32, 208, 176, 32, 208, 177, 32, 209, 134, 32, 208, 180, 32, 208, 181, 32, 209, 132, 32, 208, 179, 32, 209, 133, 32, 208, 184, 32, 208, 185, 32, 208, 186, 32, 208, 187, 32, 208, 188, 32, 208, 189, 32, 208, 190], true, 64, 15, [[209, 142], [208, 176], [208, 177], [209, 134], [208, 180], [208, 181], [209, 132], [208, 179], [209, 133], [208, 184], [208, 185], [208, 186], [208, 187], [208, 188], [208, 189], [208, 190]]⟩,
  ⟨[53, 48, 32, 208, 191, 32, 209, 143, 32, 209, 128, 32, 209, 129, 32, 209, 130, 32, 209, 131, 32, 208, 182, 32, 208, 178, 32, 209, 140, 32, 209, 139, 32, 208, 183, 32, 209, 136, 32, 209, 141, 32, 209, 137, 32, 209, 135, 32, 209, 138], [53, 48, 32, 208, 191, 32, 209, 143, 32, 209, 128, 32, 209, 129, 32, 209, 130, 32, 209, 131, 32, 208, 182, 32, 208, 178, 32, 209, 140, 32, 209, 139, 32, 208, 183, 32, 209, 136, 32, 209, 141, 32, 209, 137, 32, 209, 135, 32, 209, 138], [53, 48], [208, 191, 32, 209, 143, 32, 209, 128, 32, 209, 129, 32, 209, 130, 32, 209, 131, 32, 208, 182, 32, 208, 178, 32, 209, 140, 32, 209, 139, 32, 208, 183, 32, 209, 136, 32, 209, 141, 32, 209, 137, 32, 209, 135, 32, 209, 138], true, 80, 15, [[208, 191], [209, 143], [209, 128], [209, 129], [209, 130], [209, 131], [208, 182], [208, 178], [209, 140], [209, 139], [208, 183], [209, 136], [209, 141], [209, 137], [209, 135], [209, 138]]⟩,
  ⟨[54, 48, 32, 208, 174, 32, 208, 144, 32, 208, 145, 32, 208, 166, 32, 208, 148, 32, 208, 149, 32, 208, 164, 32, 208, 147, 32, 208, 165, 32, 208, 152, 32, 208, 153, 32, 208, 154, 32, 208, 155, 32, 208, 156, 32, 208, 157, 32, 208, 158], [54, 48, 32, 208, 174, 32, 208, 144, 32, 208, 145, 32, 208, 166, 32, 208, 148, 32, 208, 149, 32, 208, 164, 32, 208, 147, 32, 208, 165, 32, 208, 152, 32, 208, 153, 32, 208, 154, 32, 208, 155, 32, 208, 156, 32, 208, 157, 32, 208, 158], [54, 48], [208, 174, 32, 208, 144, 32, 208, 145, 32, 208, 166, 32, 208, 148, 32, 208, 149, 32, 208, 164, 32, 208, 147, 32, 208, 165, 32, 208, 152, 32, 208, 153, 32, 208, 154, 32, 208, 155, 32, 208, 156, 32, 208, 157, 32, 208, 158], true, 96, 15, [[208, 174], [208, 144], [208, 145], [208, 166], [208, 148], [208, 149], [208, 164], [208, 147], [208, 165], [208, 152], [208, 153], [208, 154], [208, 155], [208, 156], [208, 157], [208, 158]]⟩,
  ⟨[55, 48, 32, 208, 159, 32, 208, 175, 32, 208, 160, 32, 208, 161, 32, 208, 162, 32, 208, 163, 32, 208, 150, 32, 208, 146, 32, 208, 172, 32, 208, 171, 32, 208, 151, 32, 208, 168, 32, 208, 173, 32, 208, 169, 32, 208, 167], [55, 48, 32, 208, 159, 32, 208, 175, 32, 208, 160, 32, 208, 161, 32, 208, 162, 32, 208, 163, 32, 208, 150, 32, 208, 146, 32, 208, 172, 32, 208, 171, 32, 208, 151, 32, 208, 168, 32, 208, 173, 32, 208, 169, 32, 208, 167], [55, 48], [208, 159, 32, 208, 175, 32, 208, 160, 32, 208, 161, 32, 208, 162, 32, 208, 163, 32, 208, 150, 32, 208, 146, 32, 208, 172, 32, 208, 171, 32, 208, 151, 32, 208, 168, 32, 208, 173, 32, 208, 169, 32, 208, 167], true, 112, 14, [[208, 159], [208, 175], [208, 160], [208, 161], [208, 162], [208, 163], [208, 150], [208, 146], [208, 172], [208, 171], [208, 151], [208, 168], [208, 173], [208, 169], [208, 167]]⟩,
  ⟨[], [], [], [], false, 0, 0, []⟩]
noncomputable def S7 : ByteArray := strAt Tryz.f92 5
theorem good7 : Good S7 tab7 recs7 := good_of (T := txt7) (by kernel_rfl) (by kernel_rfl) (by kernel_rfl) (by kernel_rfl) (by kernel_rfl) (by kernel_rfl) (by kernel_rfl)
def txt8 : List UInt8 := [10, 52, 48, 32, 210, 145, 32, 209, 146, 32, 209, 147, 32, 209, 148, 32, 209, 145, 32, 209, 149, 32, 209, 150, 32, 209, 151, 32, 209, 152, 32, 209, 153, 32, 209, 154, 32, 209, 155, 32, 209, 156, 32, 209, 158, 32, 209, 159, 32, 45, 10, 53, 48, 32, 209, 163, 32, 209, 179, 32, 209, 181, 32, 209, 171, 32, 45, 32, 45, 32, 45, 32, 45, 32, 45, 32, 45, 32, 45, 32, 48, 48, 53, 66, 32, 45, 32, 48, 48, 53, 68, 32, 45, 32, 48, 48, 53, 70, 10, 54, 48, 32, 210, 144, 32, 208, 130, 32, 208, 131, 32, 208, 132, 32, 208, 129, 32, 208, 133, 32, 208, 134, 32, 208, 135, 32, 208, 136, 32, 208, 137, 32, 208, 138, 32, 208, 139, 32, 208, 140, 32, 208, 142, 32, 208, 143, 32, 208, 170, 10, 55, 48, 32, 209, 162, 32, 209, 178, 32, 209, 180, 32, 209, 170, 10]
def recs8 : List Ln := [⟨[], [], [], [], false, 0, 0, []⟩,
  ⟨[52, 48, 32, 210, 145, 32, 209, 146, 32, 209, 147, 32, 209, 148, 32, 209, 145, 32, 209, 149, 32, 209, 150, 32, 209, 151, 32, 209, 152, 32, 209, 153, 32, 209, 154, 32, 209, 155, 32, 209, 156, 32, 209, 158, 32, 209, 159, 32, 45], [52, 48, 32, 210, 145, 32, 209, 146, 32, 209, 147, 32, 209, 148, 32, 209, 145, 32, 209, 149, 32, 209, 150, 32, 209, 151, 32, 209, 152, 32, 209, 153, 32, 209, 154, 32, 209, 155, 32, 209, 156, 32, 209, 158, 32, 209, 159, 32, 45], [52, 48], [210, 145, 32, 209, 146, 32, 209, 147, 32, 209, 148, 32, 209, 145, 32, 209, 149, 32, 209, 150, 32, 209, 151, 32, 209, 152, 32, 209, 153, 32, 209, 154, 32, 209, 155, 32, 209, 156, 32, 209, 158, 32, 209, 159, 32, 45], true, 64, 15, [[210, 145], [209, 146], [209, 147], [209, 148], [209, 145], [209, 149], [209, 150], [209, 151], [209, 152], [209, 153], [209, 154], [209, 155], [209, 156], [209, 158], [209, 159], [45]]⟩,
  ⟨[53, 48, 32, 209, 163, 32, 209, 179, 32, 209, 181, 32, 209, 171, 32, 45, 32, 45, 32, 45, 32, 45, 32, 45, 32, 45, 32, 45, 32, 48, 48, 53, 66, 32, 45, 32, 48, 48, 53, 68, 32, 45, 32, 48, 48, 53, 70], [53, 48, 32, 209, 163, 32, 209, 179, 32, 209, 181, 32, 209, 171, 32, 45, 32, 45, 32, 45, 32, 45, 32, 45, 32, 45, 32, 45, 32, 48, 48, 53, 66, 32, 45, 32, 48, 48, 53, 68, 32, 45, 32, 48, 48, 53, 70], [53, 48], [209, 163, 32, 209, 179, 32, 209, 181, 32, 209, 171, 32, 45, 32, 45, 32, 45, 32, 45, 32, 45, 32, 45, 32, 45, 32, 48, 48, 53, 66, 32, 45, 32, 48, 48, 53, 68, 32, 45, 32, 48, 48, 53, 70], true, 80, 15, [[209, 163], [209, 179], [209, 181], [209, 171], [45], [45], [45], [45], [45], [45], [45], [48, 48, 53, 66], [45], [48, 48, 53, 68], [45], [48, 48, 53, 70]]⟩,
  ⟨[54, 48, 32, 210, 144, 32, 208, 130, 32, 208, 131, 32, 208, 132, 32, 208, 129, 32, 208, 133, 32, 208, 134, 32, 208, 135, 32, 208, 136, 32, 208, 137, 32, 208, 138, 32, 208, 139, 32, 208, 140, 32, 208, 142, 32, 208, 143, 32, 208, 170], [54, 48, 32, 210, 144, 32, 208, 130, 32, 208, 131, 32, 208, 132, 32, 208, 129, 32, 208, 133, 32, 208, 134, 32, 208, 135, 32, 208, 136, 32, 208, 137, 32, 208, 138, 32, 208, 139, 32, 208, 140, 32, 208, 142, 32, 208, 143, 32, 208, 170], [54, 48], [210, 144, 32, 208, 130, 32, 208, 131, 32, 208, 132, 32, 208, 129, 32, 208, 133, 32, 208, 134, 32, 208, 135, 32, 208, 136, 32, 208, 137, 32, 208, 138, 32, 208, 139, 32, 208, 140, 32, 208, 142, 32, 208, 143, 32, 208, 170], true, 96, 15, [[210, 144], [208, 130], [208, 131], [208, 132], [208, 129], [208, 133], [208, 134], [208, 135], [208, 136], [208, 137], [208, 138], [208, 139], [208, 140], [208, 142], [208, 143], [208, 170]]⟩,
  ⟨[55, 48, 32, 209, 162, 32, 209, 178, 32, 209, 180, 32, 209, 170], [55, 48, 32, 209, 162, 32, 209, 178, 32, 209, 180, 32, 209, 170], [55, 48], [209, 162, 32, 209, 178, 32, 209, 180, 32, 209, 170], true, 112, 3, [[209, 162], [209, 178], [209, 180], [209, 170]]⟩,
  ⟨[], [], [], [], false, 0, 0, []⟩]
noncomputable def S8 : ByteArray := strAt Tryz.f92 6
theorem good8 : Good S8 tab8 recs8 := good_of (T := txt8) (by kernel_rfl) (by kernel_rfl) (by kernel_rfl) (by kernel_rfl) (by kernel_rfl) (by kernel_rfl) (by kernel_rfl)
end Go.Proofs.YtphnahabonfmmaaGreatDoor.U
namespace Go.Proofs.YtphnahabonfmmaaGreatDoor.E
open Go.RowKit
set_option linter.unusedVariables false

/-- The characters of a text from a place on. -/
def decs (S : ByteArray) : Nat → Nat → List Int
  | 0, _ => []
  | f + 1, p => if p < S.size then ((Utf8.decode S p).1 : Int) :: decs S f (p + (Utf8.decode S p).2) else []
theorem decs_end (S : ByteArray) (f p : Nat) (h : ¬ p < S.size) : decs S f p = [] := by
  cases f with
  | zero => rfl
  | succ f => simp [decs, h]
theorem decs_at {S : ByteArray} {f p : Nat} (h : p < S.size) : decs S (f + 1) p = ((Utf8.decode S p).1 : Int) :: decs S f (p + (Utf8.decode S p).2) := by simp [decs, h]
theorem width_pos (s : ByteArray) (pos : Nat) (h : pos < s.size) : 1 ≤ (Utf8.decode s pos).2 := by
  by_cases ha : (s[pos]'h).toNat < 128
  · rw [decode_ascii s pos h ha]
    exact Nat.le_refl _
  · exact (decode_high s pos h (by omega)).2

/-- The number behind another one. -/
def nx (c : Int) : Int := if c % 256 = 126 then c + 163 else c + 1
/-- Numbers that follow each other, each with its character. -/
def codesOf : Int → List Int → List (Int × Int)
  | _, [] => []
  | c, r :: l => (c, r) :: codesOf (nx c) l
/-- What stands at a number. -/
def look : List (Int × Int) → Int → Int × Bool
  | [], _ => (0, false)
  | p :: l, n => if p.1 = n then (p.2, true) else look l n
theorem look_miss {l : List (Int × Int)} {n : Int} (h : ∀ p ∈ l, p.1 ≠ n) : look l n = (0, false) := by
  induction l with
  | nil => rfl
  | cons p l ih =>
    rw [look, if_neg (h p (by simp))]
    exact ih fun q hq => h q (by simp [hq])
theorem look_hit {l pre rest : List (Int × Int)} {n r : Int} (h : l = pre ++ (n, r) :: rest) (hp : ∀ p ∈ pre, p.1 ≠ n) : look l n = (r, true) := by
  subst h
  induction pre with
  | nil => simp [look]
  | cons p l ih =>
    rw [List.cons_append, look, if_neg (hp p (by simp))]
    exact ih fun q hq => hp q (by simp [hq])
theorem look_mem {l : List (Int × Int)} {n r : Int} (h : look l n = (r, true)) : (n, r) ∈ l := by
  induction l with
  | nil => simp [look] at h
  | cons p l ih =>
    rw [look] at h
    split at h
    · rename_i hp
      obtain ⟨a, b⟩ := p
      simp only [Prod.mk.injEq, and_true] at h hp
      subst h hp
      simp
    · exact List.mem_cons_of_mem _ (ih h)

/-- The runs' first codes. -/
def firsts : List Int := [2171681, 2171688, 2175009, 2568225, 2568228, 2568237, 3362337, 6890529, 6890785, 6891052]
def alts : List Bool := [false, false, false, true, true, true, true, false, false, false]
/-- The runs' characters. -/
def chars : List (List Int) := [[12288],
  [12289, 12290, 12300, 12301],
  [19968, 19969, 19971, 19976, 19977, 19979, 19978, 19981, 19985, 19988, 19990, 19992, 19993, 20006, 20013, 20024, 20025, 20027, 20035, 20037, 20043, 20045, 20046, 20047, 20054, 20056, 20057, 20061, 20062, 20063, 20083, 20094, 20098, 20102, 20104, 20107, 20108, 20110, 20113, 20114, 20116, 20117, 20123, 20126, 20129, 20132, 20133, 20134, 20136, 20139, 20140, 20141, 20154, 20160, 20161, 20167, 20170, 20171, 20173, 20182, 20184, 20185, 20195, 20196, 20197, 20208, 20210, 20214, 20219, 20225, 20234, 20237, 20241, 20239, 20271, 20276, 20280, 20284, 20301, 20302, 20303, 20309, 20313, 20315, 20316, 20320, 20329, 20339, 20351, 20358, 20363, 20379, 20381, 20415, 20418, 20419, 20420, 20426, 20439, 20445, 20449, 20462, 20491, 20493, 20498, 20505, 20511, 20523, 20540, 20551, 20553, 20559, 20581, 20596, 20598, 20621, 20625, 20633, 20659, 20663, 20687, 20677, 20689, 20736, 20740, 20754, 20778, 20803, 20804, 20805, 20806, 20808, 20809, 20811, 20813, 20818, 20837, 20839, 20840, 20841, 20843, 20844, 20845, 20849, 20853, 20854, 20855, 20856, 20877, 20874, 20908, 20912, 20919, 20934, 20961, 20986, 20992, 20998, 20999, 21009, 21015, 21021, 21028, 21029, 21033, 21040, 21046, 21050, 21051, 21063, 21069, 21083, 21109, 21147, 21151],
  [19968],
  [19976],
  [19992],
  [12300],
  [12353, 12354, 12355, 12356, 12357, 12358, 12359, 12360, 12361, 12362, 12363, 12364, 12365, 12366, 12367, 12368, 12369, 12370, 12371, 12372, 12373, 12374, 12375, 12376, 12377, 12378, 12379, 12380, 12381, 12382, 12383, 12384, 12385, 12386, 12387, 12388, 12389, 12390, 12391, 12392, 12393, 12394, 12395, 12396, 12397, 12398, 12399, 12400, 12401, 12402, 12403, 12404, 12405, 12406, 12407, 12408, 12409, 12410, 12411, 12412, 12413, 12414, 12415, 12416, 12417, 12418, 12419, 12420, 12421, 12422, 12423, 12424, 12425, 12426, 12427, 12428, 12429, 12430, 12431, 12432, 12433, 12434, 12435],
  [12449, 12450, 12451, 12452, 12453, 12454, 12455, 12456, 12457, 12458, 12459, 12460, 12461, 12462, 12463, 12464, 12465, 12466, 12467, 12468, 12469, 12470, 12471, 12472, 12473, 12474, 12475, 12476, 12477, 12478, 12479, 12480, 12481, 12482, 12483, 12484, 12485, 12486, 12487, 12488, 12489, 12490, 12491, 12492, 12493, 12494, 12495, 12496, 12497, 12498, 12499, 12500, 12501, 12502, 12503, 12504, 12505, 12506, 12507, 12508, 12509, 12510, 12511, 12512, 12513, 12514, 12515, 12516, 12517, 12518, 12519, 12520, 12521, 12522, 12523, 12524, 12525, 12526, 12527, 12528, 12529, 12530, 12531, 12532, 12533, 12534],
  [12540]]
/-- The runs' characters, byte by byte. -/
def texts : List (List UInt8) := [[227, 128, 128],
  [227, 128, 129, 227, 128, 130, 227, 128, 140, 227, 128, 141],
  [228, 184, 128, 228, 184, 129, 228, 184, 131, 228, 184, 136, 228, 184, 137, 228, 184, 139, 228, 184, 138, 228, 184, 141, 228, 184, 145, 228, 184, 148, 228, 184, 150, 228, 184, 152, 228, 184, 153, 228, 184, 166, 228, 184, 173, 228, 184, 184, 228, 184, 185, 228, 184, 187, 228, 185, 131, 228, 185, 133, 228, 185, 139, 228, 185, 141, 228, 185, 142, 228, 185, 143, 228, 185, 150, 228, 185, 152, 228, 185, 153, 228, 185, 157, 228, 185, 158, 228, 185, 159, 228, 185, 179, 228, 185, 190, 228, 186, 130, 228, 186, 134, 228, 186, 136, 228, 186, 139, 228, 186, 140, 228, 186, 142, 228, 186, 145, 228, 186, 146, 228, 186, 148, 228, 186, 149, 228, 186, 155, 228, 186, 158, 228, 186, 161, 228, 186, 164, 228, 186, 165, 228, 186, 166, 228, 186, 168, 228, 186, 171, 228, 186, 172, 228, 186, 173, 228, 186, 186, 228, 187, 128, 228, 187, 129, 228, 187, 135, 228, 187, 138, 228, 187, 139, 228, 187, 141, 228, 187, 150, 228, 187, 152, 228, 187, 153, 228, 187, 163, 228, 187, 164, 228, 187, 165, 228, 187, 176, 228, 187, 178, 228, 187, 182, 228, 187, 187, 228, 188, 129, 228, 188, 138, 228, 188, 141, 228, 188, 145, 228, 188, 143, 228, 188, 175, 228, 188, 180, 228, 188, 184, 228, 188, 188, 228, 189, 141, 228, 189, 142, 228, 189, 143, 228, 189, 149, 228, 189, 153, 228, 189, 155, 228, 189, 156, 228, 189, 160, 228, 189, 169, 228, 189, 179, 228, 189, 191, 228, 190, 134, 228, 190, 139, 228, 190, 155, 228, 190, 157, 228, 190, 191, 228, 191, 130, 228, 191, 131, 228, 191, 132, 228, 191, 138, 228, 191, 151, 228, 191, 157, 228, 191, 161, 228, 191, 174, 229, 128, 139, 229, 128, 141, 229, 128, 146, 229, 128, 153, 229, 128, 159, 229, 128, 171, 229, 128, 188, 229, 129, 135, 229, 129, 137, 229, 129, 143, 229, 129, 165, 229, 129, 180, 229, 129, 182, 229, 130, 141, 229, 130, 145, 229, 130, 153, 229, 130, 179, 229, 130, 183, 229, 131, 143, 229, 131, 133, 229, 131, 145, 229, 132, 128, 229, 132, 132, 229, 132, 146, 229, 132, 170, 229, 133, 131, 229, 133, 132, 229, 133, 133, 229, 133, 134, 229, 133, 136, 229, 133, 137, 229, 133, 139, 229, 133, 141, 229, 133, 146, 229, 133, 165, 229, 133, 167, 229, 133, 168, 229, 133, 169, 229, 133, 171, 229, 133, 172, 229, 133, 173, 229, 133, 177, 229, 133, 181, 229, 133, 182, 229, 133, 183, 229, 133, 184, 229, 134, 141, 229, 134, 138, 229, 134, 172, 229, 134, 176, 229, 134, 183, 229, 135, 134, 229, 135, 161, 229, 135, 186, 229, 136, 128, 229, 136, 134, 229, 136, 135, 229, 136, 145, 229, 136, 151, 229, 136, 157, 229, 136, 164, 229, 136, 165, 229, 136, 169, 229, 136, 176, 229, 136, 182, 229, 136, 186, 229, 136, 187, 229, 137, 135, 229, 137, 141, 229, 137, 155, 229, 137, 181, 229, 138, 155, 229, 138, 159],
  [228, 184, 128],
  [228, 184, 136],
  [228, 184, 152],
  [227, 128, 140],
  [227, 129, 129, 227, 129, 130, 227, 129, 131, 227, 129, 132, 227, 129, 133, 227, 129, 134, 227, 129, 135, 227, 129, 136, 227, 129, 137, 227, 129, 138, 227, 129, 139, 227, 129, 140, 227, 129, 141, 227, 129, 142, 227, 129, 143, 227, 129, 144, 227, 129, 145, 227, 129, 146, 227, 129, 147, 227, 129, 148, 227, 129, 149, 227, 129, 150, 227, 129, 151, 227, 129, 152, 227, 129, 153, 227, 129, 154, 227, 129, 155, 227, 129, 156, 227, 129, 157, 227, 129, 158, 227, 129, 159, 227, 129, 160, 227, 129, 161, 227, 129, 162, 227, 129, 163, 227, 129, 164, 227, 129, 165, 227, 129, 166, 227, 129, 167, 227, 129, 168, 227, 129, 169, 227, 129, 170, 227, 129, 171, 227, 129, 172, 227, 129, 173, 227, 129, 174, 227, 129, 175, 227, 129, 176, 227, 129, 177, 227, 129, 178, 227, 129, 179, 227, 129, 180, 227, 129, 181, 227, 129, 182, 227, 129, 183, 227, 129, 184, 227, 129, 185, 227, 129, 186, 227, 129, 187, 227, 129, 188, 227, 129, 189, 227, 129, 190, 227, 129, 191, 227, 130, 128, 227, 130, 129, 227, 130, 130, 227, 130, 131, 227, 130, 132, 227, 130, 133, 227, 130, 134, 227, 130, 135, 227, 130, 136, 227, 130, 137, 227, 130, 138, 227, 130, 139, 227, 130, 140, 227, 130, 141, 227, 130, 142, 227, 130, 143, 227, 130, 144, 227, 130, 145, 227, 130, 146, 227, 130, 147],
  [227, 130, 161, 227, 130, 162, 227, 130, 163, 227, 130, 164, 227, 130, 165, 227, 130, 166, 227, 130, 167, 227, 130, 168, 227, 130, 169, 227, 130, 170, 227, 130, 171, 227, 130, 172, 227, 130, 173, 227, 130, 174, 227, 130, 175, 227, 130, 176, 227, 130, 177, 227, 130, 178, 227, 130, 179, 227, 130, 180, 227, 130, 181, 227, 130, 182, 227, 130, 183, 227, 130, 184, 227, 130, 185, 227, 130, 186, 227, 130, 187, 227, 130, 188, 227, 130, 189, 227, 130, 190, 227, 130, 191, 227, 131, 128, 227, 131, 129, 227, 131, 130, 227, 131, 131, 227, 131, 132, 227, 131, 133, 227, 131, 134, 227, 131, 135, 227, 131, 136, 227, 131, 137, 227, 131, 138, 227, 131, 139, 227, 131, 140, 227, 131, 141, 227, 131, 142, 227, 131, 143, 227, 131, 144, 227, 131, 145, 227, 131, 146, 227, 131, 147, 227, 131, 148, 227, 131, 149, 227, 131, 150, 227, 131, 151, 227, 131, 152, 227, 131, 153, 227, 131, 154, 227, 131, 155, 227, 131, 156, 227, 131, 157, 227, 131, 158, 227, 131, 159, 227, 131, 160, 227, 131, 161, 227, 131, 162, 227, 131, 163, 227, 131, 164, 227, 131, 165, 227, 131, 166, 227, 131, 167, 227, 131, 168, 227, 131, 169, 227, 131, 170, 227, 131, 171, 227, 131, 172, 227, 131, 173, 227, 131, 174, 227, 131, 175, 227, 131, 176, 227, 131, 177, 227, 131, 178, 227, 131, 179, 227, 131, 180, 227, 131, 181, 227, 131, 182],
  [227, 131, 188]]
def fst (k : Nat) : Int := firsts.getD k 0
def alt (k : Nat) : Bool := alts.getD k false
def chs (k : Nat) : List Int := chars.getD k []
def txt (k : Nat) : List UInt8 := texts.getD k []
/-- A run's codes, each with its character. -/
def tab (k : Nat) : List (Int × Int) := codesOf (fst k) (chs k)
/-- Of the first k runs the last one that does not begin behind n. -/
def best (n : Int) : Nat → Option Nat
  | 0 => none
  | k + 1 => if fst k ≤ n then some k else best n k
theorem best_lt {n : Int} {k j : Nat} (h : best n k = some j) : j < k := by
  induction k with
  | zero => simp [best] at h
  | succ k ih =>
    rw [best] at h
    split at h
    · cases h
      omega
    · have := ih h
      omega
def tabO : Option Nat → List (Int × Int)
  | none => []
  | some k => tab k
/-- The character of a number. -/
def runeL (n : Int) : Int × Bool := look (tabO (best n 10)) n
/-- Those of a list that are the character r: their numbers. -/
def sel (r : Int) (l : List (Int × Int)) : List Int := (l.filter fun p => decide (p.2 = r)).map (·.1)
theorem sel_append (r : Int) (a b : List (Int × Int)) : sel r (a ++ b) = sel r a ++ sel r b := by simp [sel]
/-- All codes of a character of the first k runs. -/
def codesL (r : Int) : Nat → List Int
  | 0 => []
  | k + 1 => codesL r k ++ sel r (tab k)

theorem fst_range : ∀ k, k < 10 → 0 ≤ fst k ∧ fst k ≤ 16777216 := by decide +kernel

/-- Three bytes are one character. -/
def three : List UInt8 → List Int
  | a :: b :: c :: t => (((a.toNat % 16) * 4096 + (b.toNat % 64) * 64 + c.toNat % 64 : Nat) : Int) :: three t
  | _ => []
def ok3 : List UInt8 → Bool
  | [] => true
  | a :: b :: c :: t => decide (a.toNat / 16 = 14) && decide (b.toNat / 64 = 2) && decide (c.toNat / 64 = 2) && decide (2048 ≤ (a.toNat % 16) * 4096 + (b.toNat % 64) * 64 + c.toNat % 64) && Utf8.valid (((a.toNat % 16) * 4096 + (b.toNat % 64) * 64 + c.toNat % 64 : Nat) : Int) && ok3 t
  | _ => false
theorem get_drop {S : ByteArray} {p k : Nat} {l : List UInt8} {x : UInt8} (h : S.data.toList.drop p = l) (hx : l[k]? = some x) : S.get! (p + k) = x ∧ p + k < S.size := by
  have h1 : S.data.toList[p + k]? = some x := by rw [← List.getElem?_drop, h]; exact hx
  obtain ⟨hlt, hv⟩ := List.getElem?_eq_some_iff.1 h1
  have hlt' : p + k < S.data.size := by simpa using hlt
  refine ⟨?_, hlt'⟩
  show S.data[p + k]! = x
  rw [getElem!_pos S.data (p + k) hlt']
  simpa using hv
theorem decode3 {S : ByteArray} {p : Nat} {a b c : UInt8} {t : List UInt8} (h : S.data.toList.drop p = a :: b :: c :: t) (h0 : a.toNat / 16 = 14) (h1 : b.toNat / 64 = 2) (h2 : c.toNat / 64 = 2)
    (h3 : 2048 ≤ (a.toNat % 16) * 4096 + (b.toNat % 64) * 64 + c.toNat % 64) (h4 : Utf8.valid (((a.toNat % 16) * 4096 + (b.toNat % 64) * 64 + c.toNat % 64 : Nat) : Int) = true) :
    Utf8.decode S p = ((a.toNat % 16) * 4096 + (b.toNat % 64) * 64 + c.toNat % 64, 3) := by
  obtain ⟨e0, _⟩ := get_drop (k := 0) h rfl
  obtain ⟨e1, l1⟩ := get_drop (k := 1) h rfl
  obtain ⟨e2, l2⟩ := get_drop (k := 2) h rfl
  have g1 : ¬ a.toNat < 128 := by omega
  have g2 : (a.toNat / 32 == 6) = false := by rw [beq_eq_false_iff_ne]; omega
  have g3 : (a.toNat / 16 == 14) = true := by rw [beq_iff_eq]; exact h0
  have g4 : (b.toNat / 64 == 2) = true := by rw [beq_iff_eq]; exact h1
  have g5 : (c.toNat / 64 == 2) = true := by rw [beq_iff_eq]; exact h2
  simp only [Utf8.decode, e0, e1, e2, g1, g2, g3, g4, g5, l1, l2, if_false, Bool.false_and, Bool.true_and, decide_true, if_true, Bool.false_eq_true, ge_iff_le, h3, h4]
theorem decs_three {S : ByteArray} : ∀ (f : Nat) (T : List UInt8) (p : Nat), S.data.toList.drop p = T → T.length ≤ f → ok3 T = true → decs S f p = three T
  | f, [], p, h, _, _ => by
    refine decs_end S f p ?_
    have h1 : S.data.toList.length ≤ p := List.drop_eq_nil_iff.1 h
    have h2 : S.size = S.data.toList.length := (Array.length_toList (xs := S.data)).symm
    omega
  | 0, _ :: _, p, h, hf, _ => by simp at hf
  | f + 1, [a], p, h, _, ho => by simp [ok3] at ho
  | f + 1, [a, b], p, h, _, ho => by simp [ok3] at ho
  | f + 1, a :: b :: c :: t, p, h, hf, ho => by
    simp only [ok3, Bool.and_eq_true, decide_eq_true_eq] at ho
    obtain ⟨⟨⟨⟨⟨h0, h1⟩, h2⟩, h3⟩, h4⟩, h5⟩ := ho
    have hd := decode3 h h0 h1 h2 h3 h4
    have hlt := (get_drop (k := 0) h rfl).2
    rw [decs_at (by simpa using hlt), hd, three]
    refine congrArg _ (decs_three f t (p + 3) ?_ (by simp at hf; omega) h5)
    rw [← List.drop_drop, h]
    rfl
theorem decs_of {S : ByteArray} {T : List UInt8} {l : List Int} (h : S.data.toList = T) (ho : ok3 T = true) (hl : three T = l) : decs S S.size 0 = l := by
  have h2 : S.size = S.data.toList.length := (Array.length_toList (xs := S.data)).symm
  rw [← hl]
  exact decs_three S.size T 0 (by rw [List.drop_zero]; exact h) (by rw [h2, h]; exact Nat.le_refl _) ho
theorem texts_ok : texts.all ok3 = true := by kernel_rfl
theorem texts_are : texts.map three = chars := by kernel_rfl
theorem texts_short : texts.all (fun l => decide (l.length < 1000)) = true := by kernel_rfl
end Go.Proofs.YtphnahabonfmmaaGreatDoor.E
namespace Go.Proofs.YtphnahabonfmmaaGreatDoor.S
open Go.RowKit

/-- A sign that stands behind the zero z. -/
def sg (z n : Int) : Int × Bool :=
  if 48 ≤ n ∧ n ≤ 57 then (z + (n - 48), true)
  else if n = 43 then (z + 10, true)
  else if n = 45 then (z + 11, true)
  else if n = 40 then (z + 13, true)
  else if n = 41 then (z + 14, true)
  else (0, false)

/-- A superscript. -/
def up (n : Int) : Int × Bool :=
  if n = 49 then (185, true) else if n = 50 then (178, true) else if n = 51 then (179, true) else sg 8304 n

/-- A Greek symbol. -/
def gr (n : Int) : Int × Bool :=
  if n = 97 then (945, true) else if n = 98 then (946, true) else if n = 99 then (947, true) else (0, false)

/-- Each set's. -/
def ru (s n : Int) : Int × Bool := if s = 10 then sg 8320 n else if s = 11 then up n else gr n

theorem ret_pair {a : Int} {b : Bool} {p : Int × Bool} (h : p = (a, b)) : Ending.returned (.tuple #[.int .i32 a, .bool b]) = .returned (.tuple #[.int .i32 p.1, .bool p.2]) := by rw [h]

set_option maxHeartbeats 1000000 in
theorem sign_sub (n : Int) (w : World) : Calls Tryz.prog 89 #[.int .i32 8320, .int .i64 n] w fun e w' => e = .returned (.tuple #[.int .i32 (sg 8320 n).1, .bool (sg 8320 n).2]) ∧ w' = w := by
  go_enter Tryz.func89, Tryz.ntmps89
  go_wp2
  all_goals go_ret2
  all_goals refine ⟨ret_pair ?_, rfl⟩
  all_goals simp only [beq_iff_eq, beq_eq_false_iff_ne, ne_eq] at *
  all_goals (unfold sg; (repeat' split) <;> first | rfl | omega | (subst_vars; decide +kernel))

set_option maxHeartbeats 1000000 in
theorem sign_sup (n : Int) (w : World) : Calls Tryz.prog 89 #[.int .i32 8304, .int .i64 n] w fun e w' => e = .returned (.tuple #[.int .i32 (sg 8304 n).1, .bool (sg 8304 n).2]) ∧ w' = w := by
  go_enter Tryz.func89, Tryz.ntmps89
  go_wp2
  all_goals go_ret2
  all_goals refine ⟨ret_pair ?_, rfl⟩
  all_goals simp only [beq_iff_eq, beq_eq_false_iff_ne, ne_eq] at *
  all_goals (unfold sg; (repeat' split) <;> first | rfl | omega | (subst_vars; decide +kernel))

theorem raised_any (n : Int) (w : World) : Calls Tryz.prog 90 #[.int .i64 n] w fun e w' => e = .returned (.tuple #[.int .i32 (up n).1, .bool (up n).2]) ∧ w' = w := by
  obtain ⟨p, hp⟩ : ∃ p, sg 8304 n = p := ⟨_, rfl⟩
  have hs : ∀ w, Calls Tryz.prog 89 #[.int .i32 8304, .int .i64 n] w fun e w' => e = .returned (.tuple #[.int .i32 p.1, .bool p.2]) ∧ w' = w := fun w => by have := sign_sup n w; rwa [hp] at this
  have HS := Lib.hid hs
  have HP := Lib.hid hp
  clear hs hp
  go_enter Tryz.func90, Tryz.ntmps90
  go_wp2_with (go_at_call 89; (with_reducible refine (HS.out _).mono ?_); rintro e w' ⟨rfl, rfl⟩)
  all_goals go_ret2
  all_goals refine ⟨ret_pair ?_, rfl⟩
  all_goals simp only [beq_iff_eq, beq_eq_false_iff_ne, ne_eq] at *
  all_goals (unfold up; (repeat' split) <;> first | rfl | omega | exact HP.out)

theorem greek_any (n : Int) (w : World) : Calls Tryz.prog 91 #[.int .i64 n] w fun e w' => e = .returned (.tuple #[.int .i32 (gr n).1, .bool (gr n).2]) ∧ w' = w := by
  go_enter Tryz.func91, Tryz.ntmps91
  go_wp2
  all_goals go_ret2
  all_goals refine ⟨ret_pair ?_, rfl⟩
  all_goals simp only [beq_iff_eq, beq_eq_false_iff_ne, ne_eq] at *
  all_goals (unfold gr; (repeat' split) <;> first | rfl | omega)

theorem rune_is (s n r : Int) (b : Bool) (hs : s = 10 ∨ s = 11 ∨ s = 12) (h : ru s n = (r, b)) (w : World) : Calls Tryz.prog 56 #[.int .i64 s, .int .i64 n] w fun e w' => e = .returned (.tuple #[.int .i32 r, .bool b]) ∧ w' = w := by
  obtain rfl | rfl | rfl := hs
  · have h1 : sg 8320 n = (r, b) := h
    have HS : RowKit.Hid (∀ w, Calls Tryz.prog 89 #[.int .i32 8320, .int .i64 n] w fun e w' => e = .returned (.tuple #[.int .i32 r, .bool b]) ∧ w' = w) := Lib.hid fun w => by have := sign_sub n w; rwa [h1] at this
    clear h h1
    go_enter Tryz.func56, Tryz.ntmps56
    go_wp2_with (go_at_call 89; (with_reducible refine (HS.out _).mono ?_); rintro e w' ⟨rfl, rfl⟩)
    go_ret2
    exact ⟨rfl, rfl⟩
  · have h1 : up n = (r, b) := h
    have HS : RowKit.Hid (∀ w, Calls Tryz.prog 90 #[.int .i64 n] w fun e w' => e = .returned (.tuple #[.int .i32 r, .bool b]) ∧ w' = w) := Lib.hid fun w => by have := raised_any n w; rwa [h1] at this
    clear h h1
    go_enter Tryz.func56, Tryz.ntmps56
    go_wp2_with (go_at_call 90; (with_reducible refine (HS.out _).mono ?_); rintro e w' ⟨rfl, rfl⟩)
    go_ret2
    exact ⟨rfl, rfl⟩
  · have h1 : gr n = (r, b) := h
    have HS : RowKit.Hid (∀ w, Calls Tryz.prog 91 #[.int .i64 n] w fun e w' => e = .returned (.tuple #[.int .i32 r, .bool b]) ∧ w' = w) := Lib.hid fun w => by have := greek_any n w; rwa [h1] at this
    clear h h1
    go_enter Tryz.func56, Tryz.ntmps56
    go_wp2_with (go_at_call 91; (with_reducible refine (HS.out _).mono ?_); rintro e w' ⟨rfl, rfl⟩)
    go_ret2
    exact ⟨rfl, rfl⟩

end Go.Proofs.YtphnahabonfmmaaGreatDoor.S
namespace Go.Proofs.YtphnahabonfmmaaGreatDoor.G
open U
set_option linter.unusedVariables false

/-- A number of Basic. -/
def bas (n : Int) : Int × Bool := if 33 ≤ n ∧ n ≤ 126 then (n, true) else (0, false)
/-- The character of a code, and whether it has one. -/
def cr (s n : Int) : Int × Bool :=
  if s = 1 then bas n else if s = 2 then U.look tabA n else if s = 9 then E.runeL n else if s = 10 ∨ s = 11 ∨ s = 12 then S.ru s n else U.look (tabS (s - 3).toNat) n
theorem cr_1 (n : Int) : cr 1 n = bas n := rfl
theorem cr_2 (n : Int) : cr 2 n = U.look tabA n := rfl
theorem cr_9 (n : Int) : cr 9 n = E.runeL n := rfl
theorem cr_small (s n : Int) (h : s = 10 ∨ s = 11 ∨ s = 12) : cr s n = S.ru s n := by
  unfold cr
  rw [if_neg (by omega), if_neg (by omega), if_neg (by omega), if_pos h]
theorem cr_scripts (k : Nat) (n : Int) (h : k < 6) : cr (3 + (k : Int)) n = U.look (tabS k) n := by
  unfold cr
  rw [if_neg (by omega), if_neg (by omega), if_neg (by omega), if_neg (by omega)]
  congr 2
  omega
end Go.Proofs.YtphnahabonfmmaaGreatDoor.G
namespace Go.Proofs.YtphnahabonfmmaaGreatDoor.C
set_option linter.unusedVariables false

/-- First, last, class of the first, step. -/
abbrev Row := Int × Int × Int × Int
def tab : List Row := [(768, 788, 230, 0), (789, 789, 232, 0), (790, 793, 220, 0), (794, 794, 232, 0), (795, 795, 216, 0), (796, 800, 220, 0), (801, 802, 202, 0), (803, 806, 220, 0), (807, 808, 202, 0), (809, 819, 220, 0), (820, 824, 1, 0), (825, 828, 220, 0), (829, 836, 230, 0), (837, 837, 240, 0), (838, 838, 230, 0), (839, 841, 220, 0), (842, 844, 230, 0), (845, 846, 220, 0), (848, 850, 230, 0), (851, 854, 220, 0), (855, 855, 230, 0), (859, 859, 230, 0), (860, 860, 233, 0), (861, 862, 234, 0), (863, 863, 233, 0), (864, 865, 234, 0), (866, 866, 233, 0), (867, 879, 230, 0), (1456, 1464, 10, 1), (1465, 1466, 19, 0), (1467, 1469, 20, 1), (1471, 1471, 23, 0), (1473, 1474, 24, 1), (1611, 1618, 27, 1), (1619, 1620, 230, 0), (1621, 1622, 220, 0), (1648, 1648, 35, 0), (12441, 12442, 8, 0), (64286, 64286, 26, 0), (65056, 65059, 230, 0)]
def inB (s : Row) (r : Int) : Bool := decide (s.1 ≤ r) && decide (r ≤ s.2.1)
def val (s : Row) (r : Int) : Int := s.2.2.1 + (r - s.1) * s.2.2.2
def look (t : List Row) (r : Int) : Int := match t.find? (inB · r) with | some s => val s r | none => 0
def cls (r : Int) : Int := look tab r
/-- The k numbers from a on. -/
def run (a : Int) : Nat → List Int
  | 0 => []
  | k + 1 => a :: run (a + 1) k
def len (s : Row) : Nat := (s.2.1 - s.1 + 1).toNat
def runs : List Row → List Int
  | [] => []
  | s :: t => run s.1 (len s) ++ runs t
def marks : List Int := runs tab

theorem inB_true {s : Row} {r : Int} : inB s r = true ↔ s.1 ≤ r ∧ r ≤ s.2.1 := by simp [inB]
theorem inB_false {s : Row} {r : Int} : inB s r = false ↔ ¬ (s.1 ≤ r ∧ r ≤ s.2.1) := by rw [← inB_true]; simp
theorem mem_run {k : Nat} {a r : Int} : r ∈ run a k ↔ a ≤ r ∧ r < a + k := by
  induction k generalizing a with
  | zero => simp [run]
  | succ k ih => simp only [run, List.mem_cons, ih]; omega
theorem mem_runs {t : List Row} {r : Int} : r ∈ runs t ↔ ∃ s ∈ t, inB s r = true := by
  induction t with
  | nil => simp [runs]
  | cons s t ih =>
    simp only [runs, List.mem_append, ih, mem_run, List.mem_cons, inB_true, len]
    constructor
    · rintro (h | ⟨u, hu, h⟩)
      · exact ⟨s, .inl rfl, by omega⟩
      · exact ⟨u, .inr hu, h⟩
    · rintro ⟨u, rfl | hu, h⟩
      · left; omega
      · exact .inr ⟨u, hu, h⟩

theorem look_none {t : List Row} {r : Int} (h : ∀ s ∈ t, inB s r = false) : look t r = 0 := by
  unfold look
  rw [List.find?_eq_none.2 (fun s hs => by simp [h s hs])]
theorem look_at {t : List Row} {r : Int} {i : Nat} {s : Row} (hi : t[i]? = some s) (hb : ∀ j u, j < i → t[j]? = some u → inB u r = false) (hs : inB s r = true) : look t r = val s r := by
  have : t.find? (inB · r) = some s := by
    rw [List.find?_eq_some_iff_getElem]
    obtain ⟨hlt, he⟩ := List.getElem?_eq_some_iff.1 hi
    refine ⟨hs, i, hlt, he, fun j hj => ?_⟩
    have := hb j t[j] hj (by simp)
    simp [this]
  unfold look; rw [this]

/-- What is laid in the table: rows rise; bounds. -/
theorem tab_bounds : tab.all (fun s => decide (768 ≤ s.1) && decide (s.1 ≤ s.2.1) && decide (s.2.1 ≤ 65059) && decide (1 ≤ s.2.2.1) && decide (s.2.2.1 ≤ 240) && (s.2.2.2 == 0 || s.2.2.2 == 1)) = true := by kernel_rfl
theorem tab_row {i : Nat} {s : Row} (h : tab[i]? = some s) : 768 ≤ s.1 ∧ s.1 ≤ s.2.1 ∧ s.2.1 ≤ 65059 ∧ 1 ≤ s.2.2.1 ∧ s.2.2.1 ≤ 240 ∧ (s.2.2.2 = 0 ∨ s.2.2.2 = 1) := by
  have := List.all_eq_true.1 tab_bounds s (List.mem_of_getElem? h)
  simpa [and_assoc] using this
theorem tab_len : tab.length = 40 := rfl
theorem tab_at {i : Nat} (h : i < 40) : ∃ s, tab[i]? = some s := ⟨tab[i]'(by rw [tab_len]; exact h), by simp⟩

/-- Rows one behind the other. -/
def rising : List Row → Bool
  | [] => true
  | s :: t => t.all (fun u => decide (s.2.1 < u.1)) && rising t
theorem tab_rising : rising tab = true := by kernel_rfl
theorem rising_lt : ∀ (t : List Row), rising t = true → ∀ (i j : Nat) (s u : Row), t[i]? = some s → t[j]? = some u → i < j → s.2.1 < u.1
  | [], _, i, j, s, u, hi, _, _ => by simp at hi
  | x :: t, h, 0, j + 1, s, u, hi, hj, _ => by
    simp only [rising, Bool.and_eq_true, List.all_eq_true] at h
    simp at hi hj
    subst hi
    simpa using h.1 u (List.mem_of_getElem? hj)
  | x :: t, h, i + 1, j + 1, s, u, hi, hj, hij => by
    simp only [rising, Bool.and_eq_true] at h
    exact rising_lt t h.2 i j s u (by simpa using hi) (by simpa using hj) (by omega)
theorem tab_lt {i j : Nat} {s u : Row} (hi : tab[i]? = some s) (hj : tab[j]? = some u) (h : i < j) : s.2.1 < u.1 := rising_lt tab tab_rising i j s u hi hj h

/-- Is it at most this row's last? -/
def upTo (r : Int) (i : Nat) : Bool := match tab[i]? with | some s => decide (r ≤ s.2.1) | none => true
theorem upTo_is {r : Int} {i : Nat} {s : Row} (h : tab[i]? = some s) : upTo r i = decide (r ≤ s.2.1) := by unfold upTo; rw [h]
theorem upTo_mono {r : Int} {a b : Nat} (hab : a ≤ b) (hb : b < 40) (h : upTo r a = true) : upTo r b = true := by
  rcases Nat.lt_or_eq_of_le hab with hlt | rfl
  · obtain ⟨s, hs⟩ := tab_at (i := a) (by omega)
    obtain ⟨u, hu⟩ := tab_at hb
    have h1 := tab_lt hs hu hlt
    have h2 := tab_row hu
    rw [upTo_is hs] at h
    rw [upTo_is hu]
    simp at h ⊢
    omega
  · exact h
/-- What the search by halves finds. -/
theorem cls_past {r : Int} (h : ∀ t, t < 40 → upTo r t = false) : cls r = 0 := by
  refine look_none fun s hs => ?_
  obtain ⟨i, hi⟩ := List.getElem?_of_mem hs
  have := h i (by rw [← tab_len]; exact (List.getElem?_eq_some_iff.1 hi).1)
  rw [upTo_is hi] at this
  rw [inB_false]
  simp at this
  omega
theorem cls_ahead {r : Int} {i : Nat} {s : Row} (hi : tab[i]? = some s) (h : ∀ t, t < i → upTo r t = false) (hlt : r < s.1) : cls r = 0 := by
  refine look_none fun u hu => ?_
  obtain ⟨j, hj⟩ := List.getElem?_of_mem hu
  rw [inB_false]
  rcases Nat.lt_trichotomy j i with hji | rfl | hij
  · have := h j hji
    rw [upTo_is hj] at this
    simp at this
    omega
  · obtain rfl := Option.some.inj (hi.symm.trans hj)
    omega
  · have h1 := tab_lt hi hj hij
    have h2 := tab_row hi
    omega
theorem cls_in {r : Int} {i : Nat} {s : Row} (hi : tab[i]? = some s) (h : ∀ t, t < i → upTo r t = false) (hu : upTo r i = true) (hge : ¬ r < s.1) : cls r = val s r := by
  refine look_at hi (fun j u hj hju => ?_) ?_
  · have := h j hj
    rw [upTo_is hju] at this
    rw [inB_false]
    simp at this
    omega
  · rw [upTo_is hi] at hu
    rw [inB_true]
    simp at hu
    omega

/-- Marks, and no others, have a class above 0. -/
theorem marks_pos : marks.all (fun r => decide (0 < cls r) && decide (cls r ≤ 240)) = true := by kernel_rfl
theorem mem_marks {r : Int} : r ∈ marks ↔ 0 < cls r := by
  constructor
  · intro h
    have := List.all_eq_true.1 marks_pos r h
    simp at this
    exact this.1
  · intro h
    refine mem_runs.2 (Classical.byContradiction fun hn => ?_)
    have : cls r = 0 := look_none fun s hs => by
      cases hb : inB s r with
      | false => rfl
      | true => exact absurd ⟨s, hs, hb⟩ hn
    omega
theorem cls_range (r : Int) : 0 ≤ cls r ∧ cls r ≤ 240 ∧ (cls r = 0 ∨ 768 ≤ r ∧ r ≤ 65059) := by
  by_cases h : r ∈ marks
  · have := List.all_eq_true.1 marks_pos r h
    simp at this
    obtain ⟨s, hs, hr⟩ := mem_runs.1 h
    obtain ⟨i, hi⟩ := List.getElem?_of_mem hs
    have h1 := tab_row hi
    have h2 := inB_true.1 hr
    omega
  · have h0 : ¬ 0 < cls r := fun hp => h (mem_marks.2 hp)
    have : cls r = 0 := look_none fun s hs => by
      cases hb : inB s r with
      | false => rfl
      | true => exact absurd (mem_runs.2 ⟨s, hs, hb⟩) h
    omega

end Go.Proofs.YtphnahabonfmmaaGreatDoor.C
namespace Go.Proofs.YtphnahabonfmmaaGreatDoor.V
set_option linter.unusedVariables false

/-- An escape's bytes, its side, its set. -/
abbrev Esc := List Int × Int × Int
def escs : List Esc := [([27, 40, 66], 0, 1), ([27, 44, 66], 0, 1), ([27, 41, 66], 1, 1), ([27, 45, 66], 1, 1),
  ([27, 40, 33, 69], 0, 2), ([27, 44, 33, 69], 0, 2), ([27, 41, 33, 69], 1, 2), ([27, 45, 33, 69], 1, 2),
  ([27, 40, 83], 0, 3), ([27, 44, 83], 0, 3), ([27, 41, 83], 1, 3), ([27, 45, 83], 1, 3),
  ([27, 40, 50], 0, 4), ([27, 44, 50], 0, 4), ([27, 41, 50], 1, 4), ([27, 45, 50], 1, 4),
  ([27, 40, 51], 0, 5), ([27, 44, 51], 0, 5), ([27, 41, 51], 1, 5), ([27, 45, 51], 1, 5),
  ([27, 40, 52], 0, 6), ([27, 44, 52], 0, 6), ([27, 41, 52], 1, 6), ([27, 45, 52], 1, 6),
  ([27, 40, 78], 0, 7), ([27, 44, 78], 0, 7), ([27, 41, 78], 1, 7), ([27, 45, 78], 1, 7),
  ([27, 40, 81], 0, 8), ([27, 44, 81], 0, 8), ([27, 41, 81], 1, 8), ([27, 45, 81], 1, 8),
  ([27, 36, 49], 0, 9), ([27, 36, 44, 49], 0, 9), ([27, 36, 41, 49], 1, 9), ([27, 36, 45, 49], 1, 9),
  ([27, 98], 0, 10), ([27, 112], 0, 11), ([27, 103], 0, 12), ([27, 115], 0, 1)]
theorem escs_len : escs.length = 40 := by decide
/-- The sets' last bytes. -/
def lastT : List (List Int) := [[], [66], [33, 69], [83], [50], [51], [52], [78], [81], [49], [98], [112], [103]]
def lastB (set : Int) : Int := (lastT.getD set.toNat []).getLastD 0

def headL (side set : Int) : List Int :=
  if 10 ≤ set ∧ set ≤ 12 then [] else if set = 9 ∧ side = 0 then [36] else if set = 9 then [36, 41] else if side = 0 then [40] else [41]
/-- A set that has this side. -/
def Valid (side set : Int) : Prop := (side = 0 ∨ side = 1) ∧ 1 ≤ set ∧ set ≤ 12 ∧ (10 ≤ set → side = 0)
instance (side set : Int) : Decidable (Valid side set) := by unfold Valid; infer_instance
def desL (side set : Int) : List Int := if side = 0 ∧ set = 1 then [27, 115] else 27 :: headL side set ++ lastT.getD set.toNat []

/-- The shorter one is less, of those as long the one with the lesser byte first. -/
def lexB : List Int → List Int → Bool
  | x :: xs, y :: ys => if x = y then lexB xs ys else decide (x < y)
  | _, _ => false
def lessB (xs ys : List Int) : Bool := if xs.length = ys.length then lexB xs ys else decide (xs.length < ys.length)

/-- The least of the escapes that were looked at. -/
def better (side set : Int) (best : Option (List Int)) (e : Esc) : Option (List Int) :=
  if e.2.1 = side ∧ e.2.2 = set then
    match best with
    | none => some e.1
    | some b => if lessB e.1 b = true then some e.1 else some b
  else best
def bestOf (side set : Int) (l : List Esc) : Option (List Int) := l.foldl (better side set) none
theorem bestOf_next {side set : Int} {k : Nat} {e : Esc} (h : escs[k]? = some e) : bestOf side set (escs.take (k + 1)) = better side set (bestOf side set (escs.take k)) e := by
  unfold bestOf
  rw [List.take_add_one, h, List.foldl_append]
  rfl

theorem escs_at {k : Nat} (h : k < 40) : ∃ e, escs[k]? = some e := ⟨escs[k]'(by rw [escs_len]; exact h), by simp⟩
theorem escs_ok : ∀ e ∈ escs, (∀ x ∈ e.1, 0 ≤ x ∧ x < 256) ∧ 2 ≤ e.1.length ∧ e.1.length ≤ 4 ∧ Valid e.2.1 e.2.2 ∧ lessB e.1 (desL e.2.1 e.2.2) = false := by decide
theorem best_none {side set : Int} (h : ¬ Valid side set) : ∀ l : List Esc, (∀ e ∈ l, e ∈ escs) → ∀ b, l.foldl (better side set) b = b
  | [], _, b => rfl
  | e :: l, hl, b => by
    rw [List.foldl_cons, best_none h l (fun e he => hl e (by simp [he]))]
    unfold better
    rw [if_neg]
    rintro ⟨h1, h2⟩
    have := (escs_ok e (hl e (by simp))).2.2.2.1
    rw [h1, h2] at this
    exact h this
theorem bestOf_none {side set : Int} (h : ¬ Valid side set) : bestOf side set escs = none := best_none h _ (fun _ he => he) _

/-- The sets and sides that there are, one by one. -/
def pairsL : List (Int × Int) := [(0, 1), (0, 2), (0, 3), (0, 4), (0, 5), (0, 6), (0, 7), (0, 8), (0, 9), (0, 10), (0, 11), (0, 12), (1, 1), (1, 2), (1, 3), (1, 4), (1, 5), (1, 6), (1, 7), (1, 8), (1, 9)]
theorem valid_mem {side set : Int} (h : Valid side set) : (side, set) ∈ pairsL := by
  obtain ⟨h0, h1, h2, h3⟩ := h
  have : set = 1 ∨ set = 2 ∨ set = 3 ∨ set = 4 ∨ set = 5 ∨ set = 6 ∨ set = 7 ∨ set = 8 ∨ set = 9 ∨ set = 10 ∨ set = 11 ∨ set = 12 := by omega
  rcases h0 with rfl | rfl
  · rcases this with rfl | rfl | rfl | rfl | rfl | rfl | rfl | rfl | rfl | rfl | rfl | rfl <;> decide
  · have : set = 1 ∨ set = 2 ∨ set = 3 ∨ set = 4 ∨ set = 5 ∨ set = 6 ∨ set = 7 ∨ set = 8 ∨ set = 9 := by omega
    rcases this with rfl | rfl | rfl | rfl | rfl | rfl | rfl | rfl | rfl <;> decide
/-- The place of the least escape among all. -/
def placeOf (p : Int × Int) : Nat := if p = (0, 1) then 39 else if p.2 ≤ 8 then ((p.2 - 1) * 4 + 2 * p.1).toNat else if p.2 = 9 then (32 + 2 * p.1).toNat else (26 + p.2).toNat
theorem pairs_ok : ∀ p ∈ pairsL, bestOf p.1 p.2 escs = some (desL p.1 p.2) ∧ (∀ x ∈ desL p.1 p.2, 0 ≤ x ∧ x < 256) ∧ 2 ≤ (desL p.1 p.2).length ∧ (desL p.1 p.2).length ≤ 4 ∧ (desL p.1 p.2)[0]? = some 27
    ∧ ((desL p.1 p.2).getLast? = some (lastB p.2) ∨ p = (0, 1))
    ∧ escs[placeOf p]? = some (desL p.1 p.2, p.1, p.2) ∧ (∀ e ∈ escs.take (placeOf p), ¬ e.1 <+: desL p.1 p.2) := by decide +kernel
theorem pairs_apart : ∀ p ∈ pairsL, ∀ q ∈ pairsL, desL p.1 p.2 <+: desL q.1 q.2 → p = q := by decide +kernel
theorem heads_ok : ∀ p ∈ pairsL, (∀ x ∈ headL p.1 p.2, 0 ≤ x ∧ x < 256) ∧ (headL p.1 p.2).length ≤ 2 := by decide +kernel
theorem lasts_ok : ∀ l ∈ lastT, (∀ x ∈ l, 0 ≤ x ∧ x < 256) ∧ l.length ≤ 2 := by decide +kernel
theorem lastT_at {set : Int} (h0 : 1 ≤ set) (h1 : set ≤ 12) : ∃ l, lastT[set.toNat]? = some l ∧ lastT.getD set.toNat [] = l ∧ l.getLast? = some (lastB set) ∧ 1 ≤ l.length := by
  have : set = 1 ∨ set = 2 ∨ set = 3 ∨ set = 4 ∨ set = 5 ∨ set = 6 ∨ set = 7 ∨ set = 8 ∨ set = 9 ∨ set = 10 ∨ set = 11 ∨ set = 12 := by omega
  rcases this with rfl | rfl | rfl | rfl | rfl | rfl | rfl | rfl | rfl | rfl | rfl | rfl <;> exact ⟨_, rfl, rfl, by decide, by decide⟩
end Go.Proofs.YtphnahabonfmmaaGreatDoor.V
