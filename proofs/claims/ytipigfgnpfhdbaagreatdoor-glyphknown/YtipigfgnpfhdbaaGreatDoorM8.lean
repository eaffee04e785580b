/- glyph.Codes of any character; what the laws' own test asks of the program. More than seven hundred characters have a code. Plain mathematics. GlyphKnown's walk. -/
import Derived.Test.YtipigfgnpfhdbaaGreatDoorM5
import Derived.Test.YtipigfgnpfhdbaaGreatDoorM6
import Derived.Test.YtipigfgnpfhdbaaGreatDoorM7
namespace Go.Proofs.YtipigfgnpfhdbaaGreatDoor.G
open Go.RowKit U M
set_option linter.unusedVariables false

/-- A list of the codes of r, in order. -/
def IsCodes (r : Int) (L : List Cd) : Prop := ∃ P : List Cd, P.Perm (forthL (numsH r) 12) ∧ L = sortC P
theorem IsCodes.mem {r : Int} {L : List Cd} (h : IsCodes r L) {c : Cd} : c ∈ L ↔ c ∈ forthL (numsH r) 12 := by
  obtain ⟨P, hP, rfl⟩ := h
  rw [(sortC_perm P).mem_iff, hP.mem_iff]
theorem IsCodes.len {r : Int} {L : List Cd} (h : IsCodes r L) : L.length = (forthL (numsH r) 12).length := by
  obtain ⟨P, hP, rfl⟩ := h
  rw [sortC_len, hP.length_eq]
theorem having_len (r : Int) : (forthL (numsH r) 12).length ≤ 120000 := forth_len (by omega) fun s _ _ => (numsH_ok r s).1
def CodesPost (r : Int) (w : World) (e : Ending) (w' : World) : Prop := ∃ v L, e = .returned v ∧ OwnC w' w.heap.size v L ∧ Bel w w' ∧ IsCodes r L
theorem OwnC.base {w : World} {b b' : Nat} {v : Value} {l : List Cd} (h : OwnC w b v l) (hb : b' ≤ b) : OwnC w b' v l := by
  refine ⟨h.1, ?_⟩
  rcases h.2 with h0 | ⟨g, cap, cur, hv, hbg, rest⟩
  · exact .inl h0
  · exact .inr ⟨g, cap, cur, hv, by omega, rest⟩
theorem codes_of {r : Int} {G : List Gr} {w : World} {base : Nat} {v : Value} (hG : Backed (forthL (numsH r) 12) G) (hR : RowsOk w base G)
    (hv : (∃ y ∈ G, fg y = (.int .i32 r, v)) ∨ (v = .slice none 0 0 ∧ ∀ y ∈ G, (fg y).1 ≠ .int .i32 r)) : ∃ L, OwnC w base v L ∧ IsCodes r L := by
  rcases hv with ⟨y, hy, e⟩ | ⟨rfl, hno⟩
  · have e1 : y.1 = r := by
      have : rnV y = .int .i32 r := congrArg Prod.fst e
      unfold rnV at this
      injection this
    have e2 : hdrV y = v := congrArg Prod.snd e
    obtain ⟨⟨P, hP, he⟩, _⟩ := hG.1 y hy
    have hf : P.filter (fun c => rn c == y.1) = P := by
      rw [List.filter_eq_self]
      intro c hc
      have := (mem_having.1 (hP.mem_iff.1 hc)).2
      rw [this, e1]
      simp
    rw [hf] at he
    exact ⟨_, e2 ▸ hR.1 y hy, P, hP, he⟩
  · have hnil : forthL (numsH r) 12 = [] := by
      rw [List.eq_nil_iff_forall_not_mem]
      intro c hc
      obtain ⟨x, hx, e⟩ := hG.2 c hc
      refine hno x hx ?_
      show rnV x = _
      unfold rnV
      rw [e, (mem_having.1 hc).2]
    exact ⟨[], ⟨rfl, .inl ⟨rfl, rfl⟩⟩, [], by rw [hnil], (List.eq_nil_of_length_eq_zero (sortC_len [])).symm⟩
theorem having_fit {r : Int} : ∀ c ∈ forthL (numsH r) 12, 0 ≤ rn c ∧ rn c ≤ 1114111 := fun c hc => by
  have := forth_fit hc
  omega
set_option maxRecDepth 100000 in
set_option maxHeartbeats 1000000 in
theorem codes_is (r : Int) (hr : -2147483648 ≤ r ∧ r ≤ 2147483647) (w : World) (hG : Gz w) : Calls Tryz.prog 8 #[.int .i32 r] w (CodesPost r w) := by
  have hk : keyOf Tryz.prog 21 (.int .i32 r) = some (.int .i32 r) := Maps.keyOf_int_mk Tryz.underlying21 (WalkArith.wf_i32 (by omega))
  have HH := Lib.hid (fun w => having_is r w)
  have hB0 : Bel w (w.alloc (.cells #[.int .i32 r] 21)) := (Bel.refl w).alloc _
  have c0 : (w.alloc (.cells #[.int .i32 r] 21)).cell? ⟨w.heap.size, 0, none⟩ = some (.int .i32 r) := by simp
  have HFo := Lib.hid (forth_is 36 #[.pointer (some ⟨w.heap.size, 0, none⟩)] (numsH r) (w.alloc (.cells #[.int .i32 r] 21)) enters23 (hG.bel hB0).1 (fun s _ _ => numsH_ok r s)
    (fun s h1 h2 w' hb => numbers_is s r w.heap.size w' ⟨h1, h2⟩ (hG.bel (hB0.trans hb)) ((Below.cell hb (p := ⟨w.heap.size, 0, none⟩) (cell_block c0)).trans c0)))
  have HB0 := Lib.hid hB0
  have HL := Lib.hid (having_len r)
  clear hG hB0 c0
  go_enter Tryz.func8, Tryz.ntmps8
  go_wp2_with (go_at_call 21; (with_reducible refine (HH.out _).mono ?_); rintro e w1 ⟨rfl, rfl⟩)
  with_reducible refine HFo.out.mono ?_
  rintro e w1 ⟨rfl, hM, hB⟩
  have HB1 := Lib.hid (HB0.out.trans hB)
  have hbk := back_is (w.alloc (.cells #[.int .i32 r] 21)).heap.size _ (forthL (numsH r) 12) w1 hM having_fit (by have := HL.out; omega)
  simp only [World.size_alloc] at hbk
  have HBk := Lib.hid hbk
  clear hM hB HB0 HFo HL hbk
  go_wp2_with fail
  with_reducible refine HBk.out.mono ?_
  rintro e w2 ⟨rfl, n, G, hG, hM, hR, hB⟩
  have HB2 := Lib.hid (HB1.out.trans hB)
  have HG := Lib.hid hG
  have HM := Lib.hid hM
  have HR := Lib.hid hR
  have HS := Lib.hid (Below.size HB1.out)
  clear hG hM hR hB HBk HB1
  go_wp2_with (first | (at_lookup; refine wpl_get (by rfl) _ _ 43 rfl lawR Tryz.underlying43 (zeroSl _) rfl HM.out rfl hk ?_; intro v hv; have HV := Lib.hid hv; clear hv) | fail)
  go_ret
  obtain ⟨L, hL, hI⟩ := codes_of HG.out HR.out HV.out
  exact ⟨v, L, rfl, hL.base (by have := HS.out; omega), HB2.out, hI⟩
theorem perm_two {α : Type} {P : List α} {a b : α} (h : P.Perm [a, b]) : P = [a, b] ∨ P = [b, a] := by
  have hl := h.length_eq
  match P, hl with
  | [p, q], _ =>
    have hp : p ∈ [a, b] := h.mem_iff.1 (by simp)
    simp only [List.mem_cons, List.not_mem_nil, or_false] at hp
    rcases hp with rfl | rfl
    · have := List.perm_singleton.1 ((List.perm_cons p).1 h)
      rw [this]
      exact .inl rfl
    · have := List.perm_singleton.1 ((List.perm_cons p).1 (h.trans (List.Perm.swap _ _ _)))
      rw [this]
      exact .inr rfl
theorem sortC_pw (l : List Cd) : (sortC l).Pairwise fun x y => ltC y x = false := by
  have h := List.pairwise_mergeSort (le := fun x y => !ltC y x) (fun a b c h1 h2 => by
    simp only [Bool.not_eq_true', ltC_not] at *
    omega) (fun a b => by
    simp only [Bool.or_eq_true, Bool.not_eq_true', ltC_not]
    omega) l
  exact h.imp fun h => by simpa using h
theorem codes_769_is {L : List Cd} (h : IsCodes 769 L) : L = [(2, 98), (3, 34)] := by
  obtain ⟨P, hP, rfl⟩ := h
  rw [codes_769] at hP
  have hpw := sortC_pw P
  rcases perm_two ((sortC_perm P).trans hP) with e | e
  · exact e
  · rw [e] at hpw
    have := (List.pairwise_cons.1 hpw).1 (2, 98) (by simp)
    exact absurd this (by decide)
theorem own_cells {w : World} {base : Nat} {v : Value} {l : List Cd} (h : OwnC w base v l) (hne : l ≠ []) : ∃ g cap, v = .slice (some ⟨g, 0, none⟩) l.length cap ∧ base ≤ g ∧ g < w.heap.size ∧
    ∀ i c, l[i]? = some c → w.cell? ⟨g, i * 2, none⟩ = some (.int .i64 c.1) ∧ w.cell? ⟨g, i * 2 + 1, none⟩ = some (.int .i64 c.2) := by
  rcases h.2 with ⟨_, h0⟩ | ⟨g, cap, cur, rfl, hbg, hgb, r1, r2, r3, r4⟩
  · exact absurd (List.eq_nil_of_length_eq_zero h0) hne
  · refine ⟨g, cap, rfl, hbg, (Array.getElem?_eq_some_iff.1 hgb).1, fun i c hc => ?_⟩
    have hi : i < l.length := (List.getElem?_eq_some_iff.1 hc).1
    have hv : l.toArray[i]! = c := by
      obtain ⟨h1, h2⟩ := List.getElem?_eq_some_iff.1 hc
      simp [h1, h2]
    have key : ∀ t u, t < l.length * 2 → (l.flatMap encC)[t]? = some u → w.cell? ⟨g, t, none⟩ = some u := fun t u ht hu => by
      rw [← r4, List.getElem?_take_of_lt ht, Array.getElem?_toList] at hu
      simp only [World.cell?, hgb]
      simp only [Option.isSome_none, Bool.false_eq_true, if_false]
      exact hu
    refine ⟨key _ _ (by omega) ?_, key _ _ (by omega) ?_⟩
    · rw [flat_get l (i * 2) (by omega), show i * 2 / 2 = i by omega, show i * 2 % 2 = 0 by omega, hv]
      rfl
    · rw [flat_get l (i * 2 + 1) (by omega), show (i * 2 + 1) / 2 = i by omega, show (i * 2 + 1) % 2 = 1 by omega, hv]
      rfl
set_option maxRecDepth 100000 in
set_option maxHeartbeats 1000000 in
/-- The laws' own test: both codes of U+0301, and East's bytes. -/
theorem answers_is (w : World) (hG : Gz w) : Calls Tryz.prog 7 #[] w fun e w' => e = .returned (.bool true) ∧ Bel w w' := by
  have HC := Lib.hid (codes_is 769 (by omega) w hG)
  have HG := Lib.hid hG
  have HS := Lib.hid (fun w (h : Gz w) => size_is 9 w (by omega) h.2.1)
  clear hG
  go_enter Tryz.func7, Tryz.ntmps7
  go_wp2_with fail
  with_reducible refine HC.out.mono ?_
  rintro e w1 ⟨v, L, rfl, hO, hB, hI⟩
  obtain rfl := codes_769_is hI
  obtain ⟨g, cap, rfl, hbg, hgl, hcells⟩ := own_cells hO (by simp)
  have c2 : w1.cell? ⟨g, 2, none⟩ = some (.int .i64 3) := (hcells 1 (3, 34) rfl).1
  have c3 : w1.cell? ⟨g, 3, none⟩ = some (.int .i64 34) := (hcells 1 (3, 34) rfl).2
  have HB := Lib.hid hB
  clear hO hI hbg hgl hcells hB HC
  go_wp2_with (go_at_call 9; (with_reducible refine (HS.out _ (HG.out.bel HB.out)).mono ?_); rintro e w2 ⟨rfl, rfl⟩)
  go_ret
  exact ⟨rfl, HB.out⟩
end Go.Proofs.YtipigfgnpfhdbaaGreatDoor.G
namespace Go.Proofs.YtipigfgnpfhdbaaGreatDoor.G
open U
set_option linter.unusedVariables false

/-- One code of each character, the characters rising. -/
def someCodes : List (Int × Int) := [(1, 33), (1, 34), (1, 35), (1, 36), (1, 37), (1, 38), (1, 39), (1, 40), (1, 41), (1, 42), (1, 43), (1, 44), (1, 45), (1, 46), (1, 47), (1, 48), (1, 49), (1, 50), (1, 51), (1, 52), (1, 53), (1, 54),
  (1, 55), (1, 56), (1, 57), (1, 58), (1, 59), (1, 60), (1, 61), (1, 62), (1, 63), (1, 64), (1, 65), (1, 66), (1, 67), (1, 68), (1, 69), (1, 70), (1, 71), (1, 72), (1, 73), (1, 74), (1, 75), (1, 76),
  (1, 77), (1, 78), (1, 79), (1, 80), (1, 81), (1, 82), (1, 83), (1, 84), (1, 85), (1, 86), (1, 87), (1, 88), (1, 89), (1, 90), (1, 91), (1, 92), (1, 93), (1, 94), (1, 95), (1, 96), (1, 97), (1, 98),
  (1, 99), (1, 100), (1, 101), (1, 102), (1, 103), (1, 104), (1, 105), (1, 106), (1, 107), (1, 108), (1, 109), (1, 110), (1, 111), (1, 112), (1, 113), (1, 114), (1, 115), (1, 116), (1, 117), (1, 118),
  (1, 119), (1, 120), (1, 121), (1, 122), (1, 123), (1, 124), (1, 125), (1, 126), (2, 70), (2, 57), (2, 67), (3, 48), (2, 42), (2, 64), (2, 43), (11, 50), (11, 51), (2, 40), (11, 49), (3, 49), (2, 69),
  (2, 37), (2, 34), (2, 36), (2, 71), (2, 53), (2, 58), (2, 50), (2, 52), (2, 35), (2, 51), (2, 56), (2, 33), (2, 49), (2, 38), (2, 54), (2, 44), (2, 60), (2, 45), (2, 61), (2, 39), (2, 55), (2, 48),
  (2, 46), (2, 97), (2, 98), (2, 99), (2, 100), (2, 101), (2, 102), (2, 103), (2, 104), (2, 96), (2, 106), (2, 110), (2, 105), (2, 111), (2, 126), (3, 38), (2, 109), (2, 120), (2, 114), (2, 115), (2,
  116), (2, 119), (2, 112), (2, 113), (2, 121), (2, 118), (2, 117), (3, 36), (3, 39), (3, 52), (3, 53), (3, 63), (3, 59), (3, 65), (3, 66), (3, 68), (3, 69), (3, 70), (3, 73), (3, 74), (3, 75), (3, 76),
  (3, 77), (3, 78), (3, 79), (3, 80), (3, 81), (3, 82), (3, 83), (3, 85), (3, 86), (3, 88), (3, 89), (3, 90), (3, 91), (3, 92), (3, 93), (3, 97), (3, 98), (3, 100), (3, 101), (3, 102), (3, 105), (3,
  106), (3, 107), (3, 108), (3, 109), (3, 110), (3, 111), (3, 112), (3, 113), (3, 114), (3, 115), (3, 117), (3, 119), (3, 118), (3, 120), (3, 121), (3, 122), (3, 123), (3, 124), (3, 125), (3, 99), (3,
  71), (3, 103), (3, 72), (3, 104), (3, 84), (3, 116), (3, 94), (3, 126), (8, 100), (8, 97), (8, 98), (8, 99), (8, 101), (8, 102), (8, 103), (8, 104), (8, 105), (8, 106), (8, 107), (8, 108), (8, 109),
  (8, 110), (7, 97), (7, 98), (7, 119), (7, 103), (7, 100), (7, 101), (7, 118), (7, 122), (7, 105), (7, 106), (7, 107), (7, 108), (7, 109), (7, 110), (7, 111), (7, 112), (7, 114), (7, 115), (7, 116),
  (7, 117), (7, 102), (7, 104), (7, 99), (7, 126), (7, 123), (7, 125), (8, 111), (7, 121), (7, 120), (7, 124), (7, 96), (7, 113), (7, 65), (7, 66), (7, 87), (7, 71), (7, 68), (7, 69), (7, 86), (7, 90),
  (7, 73), (7, 74), (7, 75), (7, 76), (7, 77), (7, 78), (7, 79), (7, 80), (7, 82), (7, 83), (7, 84), (7, 85), (7, 70), (7, 72), (7, 67), (7, 94), (7, 91), (7, 93), (7, 95), (7, 89), (7, 88), (7, 92),
  (7, 64), (7, 81), (8, 68), (8, 65), (8, 66), (8, 67), (8, 69), (8, 70), (8, 71), (8, 72), (8, 73), (8, 74), (8, 75), (8, 76), (8, 77), (8, 78), (8, 112), (8, 80), (8, 115), (8, 83), (8, 113), (8, 81),
  (8, 114), (8, 82), (8, 96), (8, 64), (4, 71), (4, 74), (4, 72), (4, 73), (4, 68), (4, 67), (4, 66), (4, 64), (4, 65), (4, 69), (4, 70), (4, 75), (4, 45), (4, 76), (4, 77), (4, 96), (4, 97), (4, 98),
  (4, 99), (4, 100), (4, 101), (4, 102), (4, 103), (4, 104), (4, 105), (4, 106), (4, 107), (4, 108), (4, 109), (4, 110), (4, 111), (4, 112), (4, 113), (4, 114), (4, 115), (4, 116), (4, 117), (4, 118),
  (4, 119), (4, 120), (4, 121), (4, 122), (4, 123), (4, 124), (4, 125), (4, 39), (4, 34), (5, 44), (5, 59), (5, 63), (5, 65), (5, 66), (5, 67), (5, 68), (5, 69), (5, 70), (5, 71), (5, 72), (5, 73), (5,
  74), (5, 75), (5, 76), (5, 77), (5, 78), (5, 79), (5, 80), (5, 81), (5, 82), (5, 83), (5, 84), (5, 85), (5, 86), (5, 87), (5, 88), (5, 89), (5, 90), (5, 96), (5, 97), (5, 98), (5, 99), (5, 100), (5,
  101), (5, 102), (5, 103), (5, 104), (5, 105), (5, 106), (5, 107), (5, 108), (5, 109), (5, 110), (5, 111), (5, 112), (5, 113), (5, 114), (5, 48), (5, 49), (5, 50), (5, 51), (5, 52), (5, 53), (5, 54),
  (5, 55), (5, 56), (5, 57), (5, 37), (5, 120), (5, 42), (5, 116), (5, 115), (6, 34), (6, 35), (6, 36), (6, 37), (6, 38), (6, 39), (6, 40), (6, 41), (6, 42), (6, 43), (6, 44), (6, 45), (6, 46), (6, 47),
  (6, 48), (6, 49), (6, 51), (6, 52), (6, 53), (6, 54), (6, 55), (6, 56), (6, 57), (6, 58), (6, 59), (6, 60), (6, 61), (6, 62), (6, 63), (6, 64), (6, 65), (6, 66), (6, 67), (6, 68), (6, 69), (6, 70),
  (6, 71), (6, 72), (6, 74), (6, 75), (6, 77), (6, 78), (6, 80), (6, 81), (6, 82), (6, 83), (6, 84), (6, 85), (6, 86), (6, 87), (6, 88), (6, 89), (6, 90), (6, 91), (6, 92), (6, 93), (6, 94), (6, 95),
  (6, 96), (6, 97), (6, 98), (6, 99), (6, 100), (6, 101), (6, 102), (6, 103), (6, 108), (6, 104), (6, 105), (6, 106), (6, 107), (6, 109), (6, 50), (6, 73), (6, 76), (6, 79), (6, 33), (3, 50), (3, 51),
  (11, 48), (11, 52), (11, 53), (11, 54), (11, 55), (11, 56), (11, 57), (11, 43), (11, 45), (11, 40), (11, 41), (10, 48), (10, 49), (10, 50), (10, 51), (10, 52), (10, 53), (10, 54), (10, 55), (10, 56),
  (10, 57), (10, 43), (10, 45), (10, 40), (10, 41), (2, 72), (2, 65), (2, 66), (2, 41), (2, 68), (9, 2171681), (9, 2171688), (9, 2171689), (9, 2171690), (9, 2171691), (9, 6890529), (9, 6890530), (9,
  6890531), (9, 6890532), (9, 6890533), (9, 6890534), (9, 6890535), (9, 6890536), (9, 6890537), (9, 6890538), (9, 6890539), (9, 6890540), (9, 6890541), (9, 6890542), (9, 6890543), (9, 6890544), (9,
  6890545), (9, 6890546), (9, 6890547), (9, 6890548), (9, 6890549), (9, 6890550), (9, 6890551), (9, 6890552), (9, 6890553), (9, 6890554), (9, 6890555), (9, 6890556), (9, 6890557), (9, 6890558), (9,
  6890559), (9, 6890560), (9, 6890561), (9, 6890562), (9, 6890563), (9, 6890564), (9, 6890565), (9, 6890566), (9, 6890567), (9, 6890568), (9, 6890569), (9, 6890570), (9, 6890571), (9, 6890572), (9,
  6890573), (9, 6890574), (9, 6890575), (9, 6890576), (9, 6890577), (9, 6890578), (9, 6890579), (9, 6890580), (9, 6890581), (9, 6890582), (9, 6890583), (9, 6890584), (9, 6890585), (9, 6890586), (9,
  6890587), (9, 6890588), (9, 6890589), (9, 6890590), (9, 6890591), (9, 6890592), (9, 6890593), (9, 6890594), (9, 6890595), (9, 6890596), (9, 6890597), (9, 6890598), (9, 6890599), (9, 6890600), (9,
  6890601), (9, 6890602), (9, 6890603), (9, 6890604), (9, 6890605), (9, 6890606), (9, 6890607), (9, 6890608), (9, 6890609), (9, 6890610), (9, 6890611), (9, 6890785), (9, 6890786), (9, 6890787), (9,
  6890788), (9, 6890789), (9, 6890790), (9, 6890791), (9, 6890792), (9, 6890793), (9, 6890794), (9, 6890795), (9, 6890796), (9, 6890797), (9, 6890798), (9, 6890799), (9, 6890800), (9, 6890801), (9,
  6890802), (9, 6890803), (9, 6890804), (9, 6890805), (9, 6890806), (9, 6890807), (9, 6890808), (9, 6890809), (9, 6890810), (9, 6890811), (9, 6890812), (9, 6890813), (9, 6890814), (9, 6890815), (9,
  6890816), (9, 6890817), (9, 6890818), (9, 6890819), (9, 6890820), (9, 6890821), (9, 6890822), (9, 6890823), (9, 6890824), (9, 6890825), (9, 6890826), (9, 6890827), (9, 6890828), (9, 6890829), (9,
  6890830), (9, 6890831), (9, 6890832), (9, 6890833), (9, 6890834), (9, 6890835), (9, 6890836), (9, 6890837), (9, 6890838), (9, 6890839), (9, 6890840), (9, 6890841), (9, 6890842), (9, 6890843), (9,
  6890844), (9, 6890845), (9, 6890846), (9, 6890847), (9, 6890848), (9, 6890849), (9, 6890850), (9, 6890851), (9, 6890852), (9, 6890853), (9, 6890854), (9, 6890855), (9, 6890856), (9, 6890857), (9,
  6890858), (9, 6890859), (9, 6890860), (9, 6890861), (9, 6890862), (9, 6890863), (9, 6890864), (9, 6890865), (9, 6890866), (9, 6890867), (9, 6890868), (9, 6890869), (9, 6890870), (9, 6891052), (9,
  2175009), (9, 2175010), (9, 2175011), (9, 2175012), (9, 2175013), (9, 2175015), (9, 2175014), (9, 2175016), (9, 2175017), (9, 2175018), (9, 2175019), (9, 2175020), (9, 2175021), (9, 2175022), (9,
  2175023), (9, 2175024), (9, 2175025), (9, 2175026), (9, 2175027), (9, 2175028), (9, 2175029), (9, 2175030), (9, 2175031), (9, 2175032), (9, 2175033), (9, 2175034), (9, 2175035), (9, 2175036), (9,
  2175037), (9, 2175038), (9, 2175039), (9, 2175040), (9, 2175041), (9, 2175042), (9, 2175043), (9, 2175044), (9, 2175045), (9, 2175046), (9, 2175047), (9, 2175048), (9, 2175049), (9, 2175050), (9,
  2175051), (9, 2175052), (9, 2175053), (9, 2175054), (9, 2175055), (9, 2175056), (9, 2175057), (9, 2175058), (9, 2175059), (9, 2175060), (9, 2175061), (9, 2175062), (9, 2175063), (9, 2175064), (9,
  2175065), (9, 2175066), (9, 2175067), (9, 2175068), (9, 2175069), (9, 2175070), (9, 2175071), (9, 2175072), (9, 2175073), (9, 2175074), (9, 2175075), (9, 2175076), (9, 2175077), (9, 2175078), (9,
  2175079), (9, 2175080), (9, 2175082), (9, 2175081), (9, 2175083), (9, 2175084), (9, 2175085), (9, 2175086), (9, 2175087), (9, 2175088), (9, 2175089), (9, 2175090), (9, 2175091), (9, 2175092), (9,
  2175093), (9, 2175094), (9, 2175095), (9, 2175096), (9, 2175097), (9, 2175098), (9, 2175099), (9, 2175100), (9, 2175101), (9, 2175102), (9, 2175265), (9, 2175266), (9, 2175267), (9, 2175268), (9,
  2175269), (9, 2175270), (9, 2175271), (9, 2175272), (9, 2175273), (9, 2175274), (9, 2175275), (9, 2175276), (9, 2175277), (9, 2175278), (9, 2175279), (9, 2175280), (9, 2175281), (9, 2175282), (9,
  2175283), (9, 2175284), (9, 2175285), (9, 2175286), (9, 2175287), (9, 2175288), (9, 2175289), (9, 2175290), (9, 2175292), (9, 2175291), (9, 2175293), (9, 2175294), (9, 2175295), (9, 2175296), (9,
  2175297), (9, 2175298), (9, 2175299), (9, 2175300), (9, 2175301), (9, 2175302), (9, 2175303), (9, 2175304), (9, 2175305), (9, 2175306), (9, 2175307), (9, 2175308), (9, 2175309), (9, 2175310), (9,
  2175311), (9, 2175312), (9, 2175313), (9, 2175314), (9, 2175315), (9, 2175316), (9, 2175317), (9, 2175318), (9, 2175320), (9, 2175319), (9, 2175321), (9, 2175322), (9, 2175323), (9, 2175324), (9,
  2175325), (9, 2175326), (9, 2175327), (9, 2175328), (9, 2175329), (9, 2175330), (9, 2175331), (9, 2175332), (9, 2175333), (9, 2175334), (9, 2175335), (9, 2175336), (9, 2175337), (9, 2175338), (9,
  2175339), (9, 2175340), (9, 2175341), (9, 2175342), (9, 2175343), (9, 2175344), (9, 2175345), (4, 78), (2, 107), (2, 108), (2, 122), (2, 123)]
def okW (c : Cd) : Bool := decide (1 ≤ c.1) && decide (c.1 ≤ 12) && (cr c.1 c.2).2 && (if c.1 = 9 then rowsL.any (fun z => decide (z + 33 ≤ c.2) && decide (c.2 ≤ z + 126)) else decide (33 ≤ c.2) && decide (c.2 ≤ 126))
theorem okW_all : someCodes.all okW = true := by kernel_rfl
theorem some_rise : rise (someCodes.map rn) = true := by kernel_rfl
theorem some_long : 700 < someCodes.length := by decide +kernel
theorem okW_mem {c : Cd} (h : okW c = true) : c ∈ forthL everyL 12 := by
  unfold okW at h
  simp only [Bool.and_eq_true, decide_eq_true_eq] at h
  obtain ⟨⟨⟨h1, h2⟩, h3⟩, h4⟩ := h
  refine mem_forth.2 ⟨h1, by omega, ?_, h3⟩
  by_cases h9 : c.1 = 9
  · rw [if_pos h9] at h4
    rw [h9]
    simp only [List.any_eq_true, Bool.and_eq_true, decide_eq_true_eq] at h4
    exact mem_every9.2 h4
  · rw [if_neg h9] at h4
    simp only [Bool.and_eq_true, decide_eq_true_eq] at h4
    rw [every_other h9]
    exact mem_row.2 (by omega)
theorem nodup_len {α : Type} {l m : List α} (h : l.Nodup) (hs : ∀ x ∈ l, x ∈ m) : l.length ≤ m.length := List.Nodup.length_le_of_subset h hs
theorem known_long {l : List Int} (hp : l.Pairwise (· < ·)) (hm : ∀ r, r ∈ l ↔ Known r) : 700 < l.length := by
  have h1 : (someCodes.map rn).Nodup := nodup_of_lt (rise_pw some_rise)
  have h2 := nodup_len h1 (m := l) (fun r hr => by
    obtain ⟨c, hc, rfl⟩ := List.mem_map.1 hr
    exact (hm _).2 ⟨c, okW_mem (List.all_eq_true.1 okW_all c hc), rfl⟩)
  rw [List.length_map] at h2
  have := some_long
  omega
theorem known_short {l : List Int} (hp : l.Pairwise (· < ·)) (hm : ∀ r, r ∈ l ↔ Known r) : l.length ≤ 200000 := by
  have h2 := nodup_len (nodup_of_lt hp) (m := (forthL everyL 12).map rn) (fun r hr => by
    obtain ⟨c, hc, rfl⟩ := (hm r).1 hr
    exact List.mem_map.2 ⟨c, hc, rfl⟩)
  rw [List.length_map] at h2
  have h := forth_len (nums := everyL) (j := 12) (by omega) (fun s h1 h2 => everyL_len s)
  omega
end Go.Proofs.YtipigfgnpfhdbaaGreatDoor.G
namespace Go.Proofs.YtipigfgnpfhdbaaGreatDoor.G
open Go.RowKit U M
set_option linter.unusedVariables false

def AnsG (w : World) (e : Ending) (w' : World) : Prop := e = .returned (.bool true) ∧ Bel w w'
/-- Between two characters. -/
def KnR (w1 : World) (l : List Int) (r : Int) (u v : Value) (wr : World) : Prop := ∃ (k : Nat) (b : Bool), u = .bool b ∧ v = .int .i64 k ∧ k ≤ l.length ∧ b = decide (r ∈ l.take k) ∧ ∃ q, wr = w1.drewN q
theorem row_fam {w : World} {base : Nat} {v : Value} {l : List Int} (h : w.ownsRow base 21 1 v l.length (l.map (Value.int .i32))) (hl : l ≠ []) : ∃ g cap, v = .slice (some ⟨g, 0, none⟩) l.length cap ∧ base ≤ g ∧ g < w.heap.size ∧ ∀ t, t < l.length → w.cell? ⟨g, t, none⟩ = some (.int .i32 l[t]!) := by
  rcases h.2 with ⟨_, h0⟩ | ⟨g, cap, cur, rfl, hbg, hgb, r1, r2, r3, r4⟩
  · exact absurd (List.eq_nil_of_length_eq_zero h0) hl
  · refine ⟨g, cap, rfl, hbg, (Array.getElem?_eq_some_iff.1 hgb).1, fun t ht => ?_⟩
    have h1 := (holds32 hgb (by simpa using r4) t (by simpa using ht)).1
    rw [Nat.zero_add] at h1
    rw [h1]
    simp [Q.E, ht]
theorem take_mem {l : List Int} {k : Nat} {r : Int} (hk : k < l.length) : decide (r ∈ l.take (k + 1)) = (decide (r ∈ l.take k) || (l[k]! == r)) := by
  have h : l.take (k + 1) = l.take k ++ [l[k]!] := by
    rw [List.take_add_one, List.getElem?_eq_getElem hk, getElem!_pos l k hk]
    rfl
  rw [h, Bool.eq_iff_iff]
  simp only [decide_eq_true_eq, Bool.or_eq_true, List.mem_append, List.mem_singleton, beq_iff_eq]
  constructor
  · rintro (h | h)
    · exact .inl h
    · exact .inr h.symm
  · rintro (h | h)
    · exact .inl h
    · exact .inr h.symm
theorem own_slice {w : World} {base : Nat} {v : Value} {l : List Cd} (h : OwnC w base v l) : ∃ A cap, v = .slice A l.length cap := by
  rcases h.2 with ⟨rfl, h0⟩ | ⟨g, cap, cur, rfl, _⟩
  · exact ⟨none, 0, by rw [h0]⟩
  · exact ⟨_, cap, rfl⟩
theorem k_lt {k n : Nat} (h : k < n) : decide ((k : Int) < (n : Int)) = true ∧ decide (k < n) = true := by simp; omega
theorem k_ge {k n : Nat} (h : ¬ k < n) : decide ((k : Int) < (n : Int)) = false ∧ decide (k < n) = false := by simp; omega
theorem k_zero {k : Nat} (h : k = 0) : decide ((0 : Int) < (k : Int)) = false ∧ decide (0 < k) = false ∧ ¬ 0 < k := by simp; omega
theorem k_pos {k : Nat} (h : 0 < k) : decide ((0 : Int) < (k : Int)) = true ∧ decide (0 < k) = true := by simp; omega
theorem k_inc {k n : Nat} (h : k < n) (hn : n ≤ 200000) : wrap64 ((k : Int) + 1) = ((k + 1 : Nat) : Int) := by unfold wrap64; omega
theorem k_dec {k n : Nat} (h0 : 0 < k) (h : k < n) (hn : n ≤ 200000) : wrap64 ((k : Int) - 1) = ((k - 1 : Nat) : Int) ∧ IntKind.i64.wrap ((k : Int) - 1) = ((k - 1 : Nat) : Int) := by
  refine ⟨by unfold wrap64; omega, by rw [IntKind.wrap_i64]; omega⟩
theorem k_meas {k n : Nat} {x : Int} (h : k < n) (hx : x = ((k + 1 : Nat) : Int)) : n - (intOf (.int .i64 x)).toNat < n - (intOf (.int .i64 (k : Int))).toNat := by
  subst hx
  show n - (k + 1) < n - k
  omega
theorem rise_at {l : List Int} (h : l.Pairwise (· < ·)) {k : Nat} (h0 : 0 < k) (hk : k < l.length) : decide (l[k]! ≤ l[k - 1]!) = false := by
  have h1 := List.pairwise_iff_getElem.1 h (k - 1) k (by omega) hk (by omega)
  rw [getElem!_pos l k hk, getElem!_pos l (k - 1) (by omega)]
  simp
  exact h1
theorem all_mem {l : List Int} {r : Int} {n : Nat} (hn : l.length = n) : decide (r ∈ l.take n) = decide (r ∈ l) := by rw [List.take_of_length_le (by omega)]
theorem codes_pos {r : Int} {l : List Int} {L : List Cd} (hm : ∀ r, r ∈ l ↔ Known r) (hI : IsCodes r L) : decide (0 < L.length) = decide (r ∈ l) := by
  rw [decide_eq_decide, hm r, known_iff, hI.len]
  constructor
  · intro h; exact List.exists_mem_of_length_pos h
  · rintro ⟨c, hc⟩; exact List.length_pos_of_mem hc
set_option maxRecDepth 100000 in
set_option maxHeartbeats 2000000 in
theorem known_any (r : Int) (w : World) (hr : -2147483648 ≤ r ∧ r ≤ 2147483647) (hG : Gz w) : Calls Tryz.prog 3 #[.int .i32 r] w (AnsG w) := by
  have HK := Lib.hid (known_is w hG)
  have HG := Lib.hid hG
  have HA := Lib.hid (fun w h => answers_is w h)
  have HC := Lib.hid (fun w h => codes_is r hr w h)
  clear hG hr
  go_enter Tryz.func3, Tryz.ntmps3
  go_wp2_with fail
  with_reducible refine HK.out.mono ?_
  rintro e w1 ⟨v, l, rfl, hrow, hB, hpw, hmem⟩
  have hlong := known_long hpw hmem
  have hne : l ≠ [] := fun e => by rw [e] at hlong; simp at hlong
  obtain ⟨g, cap, rfl, hbg, hgl, hcell⟩ := row_fam hrow hne
  have HB1 := Lib.hid hB
  have HP := Lib.hid hpw
  have HM := Lib.hid hmem
  have HL := Lib.hid hlong
  have HCe := Lib.hid hcell
  obtain ⟨n, hn⟩ : ∃ n, l.length = n := ⟨_, rfl⟩
  have HN := Lib.hid hn
  rw [hn]
  clear hB hpw hmem hlong hne hrow hbg hcell hgl HK hn
  go_wp2_with fail
  with_reducible refine (HA.out _ (HG.out.bel HB1.out)).mono ?_
  rintro e w2 ⟨rfl, hB⟩
  have HB2 := Lib.hid (HB1.out.trans hB)
  obtain ⟨G, hGf⟩ : ∃ G : Nat → Int, ∀ t, G t = l[t]! := ⟨fun t => l[t]!, fun _ => rfl⟩
  have hcw : ∀ t, t < n → w2.cell? ⟨g, t, none⟩ = some (.int .i32 (G t)) := fun t ht => by
    rw [hGf]
    exact (Below.cell hB (p := ⟨g, t, none⟩) (cell_block (HCe.out t (by rw [HN.out]; exact ht)))).trans (HCe.out t (by rw [HN.out]; exact ht))
  have HGf := Lib.hid hGf
  have HCw := Lib.hid hcw
  have hmax : n ≤ 200000 := by
    rw [← HN.out]
    exact known_short HP.out HM.out
  have HMx := Lib.hid hmax
  clear hGf hcw hB HCe HA hmax
  go_wp2
  go_loopw [4, 5] (fun u v wr => KnR w2 l r u v wr) (fun _ v _ => n - (intOf v).toNat)
  case atStart => exact ⟨0, false, rfl, rfl, Nat.zero_le _, by simp, 0, rfl⟩
  case round =>
    obtain ⟨k, b, rfl, rfl, hk, hb, q, rfl⟩ := hrel
    have HBk := Lib.hid hb
    have HK := Lib.hid hk
    clear hb hk
    by_cases hkn : k < n
    · have c1 : (w2.drewN q).cell? ⟨g, k, none⟩ = some (.int .i32 (G k)) := HCw.out k hkn
      have HB3 := Lib.hid (show decide (r ∈ l.take (k + 1)) = (b || (G k == r)) by rw [take_mem (by rw [HN.out]; exact hkn), HBk.out, HGf.out])
      obtain ⟨qk, qk2⟩ := k_lt hkn
      have hw := k_inc hkn HMx.out
      have HKn := Lib.hid hkn
      rcases Nat.eq_zero_or_pos k with h0 | h0
      · obtain ⟨qz, qz2, qz3⟩ := k_zero h0
        clear h0
        go_wp2_with fail
        go_quiet (fail)
        have c3 : (w2.drewN (q + nq)).cell? ⟨g, k, none⟩ = some (.int .i32 (G k)) := HCw.out k HKn.out
        obtain ⟨ee, hee⟩ : ∃ ee, (G k == r) = ee := ⟨_, rfl⟩
        rw [hee] at HB3
        cases b <;> cases ee
        all_goals go_wp2
        all_goals exact ⟨⟨k + 1, _, rfl, by first | rfl | rw [hw], by rw [HN.out]; exact HKn.out, HB3.out.symm, q + nq, rfl⟩, by first | exact k_meas HKn.out rfl | exact k_meas HKn.out hw⟩
      · obtain ⟨qp, qp2⟩ := k_pos h0
        obtain ⟨hd1, hd2⟩ := k_dec h0 hkn HMx.out
        have c2 : (w2.drewN q).cell? ⟨g, k - 1, none⟩ = some (.int .i32 (G (k - 1))) := HCw.out (k - 1) (Nat.lt_of_le_of_lt (Nat.sub_le _ _) hkn)
        have hle : decide (G k ≤ G (k - 1)) = false := by rw [HGf.out, HGf.out]; exact rise_at HP.out h0 (by rw [HN.out]; exact hkn)
        have hk1 : k - 1 < n := Nat.lt_of_le_of_lt (Nat.sub_le _ _) hkn
        have cw1 : w2.cell? ⟨g, k, none⟩ = some (.int .i32 (G k)) := HCw.out k hkn
        have cw2 : w2.cell? ⟨g, k - 1, none⟩ = some (.int .i32 (G (k - 1))) := HCw.out (k - 1) hk1
        go_wp2_with fail
        go_quiet (fail)
        have c3 : (w2.drewN (q + nq)).cell? ⟨g, k, none⟩ = some (.int .i32 (G k)) := HCw.out k HKn.out
        obtain ⟨ee, hee⟩ : ∃ ee, (G k == r) = ee := ⟨_, rfl⟩
        rw [hee] at HB3
        cases b <;> cases ee
        all_goals go_wp2
        all_goals exact ⟨⟨k + 1, _, rfl, by first | rfl | rw [hw], by rw [HN.out]; exact HKn.out, HB3.out.symm, q + nq, rfl⟩, by first | exact k_meas HKn.out rfl | exact k_meas HKn.out hw⟩
    · obtain ⟨qk, qk2⟩ := k_ge hkn
      have hb : b = decide (r ∈ l) := by rw [HBk.out, ← all_mem HN.out (r := r), show k = n by have := HK.out; have := HN.out; omega]
      have HBb := Lib.hid hb
      have hcon := HC.out (w2.drewN q) (HG.out.bel (Bel.drewN HB2.out q))
      have HCon := Lib.hid hcon
      have q7 : decide ((700 : Int) < (n : Int)) = true := by have := HL.out; have := HN.out; simp; omega
      have q72 : decide (700 < n) = true := by have := HL.out; have := HN.out; simp; omega
      clear hb hcon hkn
      go_wp2_with fail
      with_reducible refine HCon.out.mono ?_
      rintro e w3 ⟨v, L, rfl, hO, hB3, hI⟩
      obtain ⟨A, cap2, rfl⟩ := own_slice hO
      obtain ⟨m, hm⟩ : ∃ m, L.length = m := ⟨_, rfl⟩
      have hmb : decide (0 < m) = b := by rw [← hm, codes_pos HM.out hI, HBb.out]
      have hmb2 : decide ((0 : Int) < (m : Int)) = b := by rw [← hmb]; simp
      have HBe := Lib.hid ((Bel.drewN HB2.out q).trans hB3)
      rw [hm]
      clear hO hB3 hI hm HBb HBk
      go_wp2
      go_ret
      exact ⟨rfl, HBe.out⟩
end Go.Proofs.YtipigfgnpfhdbaaGreatDoor.G
