/- glyph.forth: whatever function tells the sets' numbers. Codes grouped by their characters. Plain mathematics, but for the cells of a row of codes. glyph.back: what one more code does to the groups and their rows. slices.SortFunc of codes by glyph.compare: the library structure's contract. glyph.back: the codes of each character, sorted. maps.Keys of a map of the call's own, told one by one in whatever order; slices.Collect and slices.Sorted of what it tells. slices.IndexFunc and slices.DeleteFunc of numbers, by a predicate that may lay blocks. glyph.having: the numbers of a set whose character is r. -/
import Derived.Test.YtipigfgnpfhdbaaGreatDoorM4
import Derived.DeepKeys4
import Derived.Maps.AppendAt
import Derived.Test.YtipigfgnpfhdbaaGreatDoorM1
import Derived.Sort.MapsRangeIn
import Derived.RangeFuncSeq
import Derived.Lib.SliceRun
import Derived.Test.YtipigfgnpfhdbaaGreatDoorM3
namespace Go.Proofs.YtipigfgnpfhdbaaGreatDoor.G
open Go.RowKit U M
open Go.Maps (Keyed)
set_option linter.unusedVariables false

theorem laidP : laidOutB Tryz.prog = true := by kernel_rfl
theorem lawC : Keyed Tryz.prog 30 := Keyed.of_law (deep_law_laid laidP (m := 2) (by omega) (of_decide_eq_true (by kernel_rfl)) (by kernel_rfl) (by rw [Tryz.underlying30]))
theorem lawR : Keyed Tryz.prog 21 := Maps.int_keyed Tryz.underlying21
def codeV (c : Int × Int) : Value := .agg #[.int .i64 c.1, .int .i64 c.2]
theorem codeV_inj {c d : Int × Int} (h : codeV c = codeV d) : c = d := by
  unfold codeV at h
  simp at h
  exact Prod.ext h.1 h.2
theorem tsize : ∃ m, Tryz.prog.types.size + 1 = m + 2 := ⟨Tryz.prog.types.size - 1, by have : 1 ≤ Tryz.prog.types.size := of_decide_eq_true (by kernel_rfl); omega⟩
theorem cellsC : Tryz.prog.cellsOf 30 = 2 := by kernel_rfl
theorem cellsI : Tryz.prog.cellsOf 3 = 1 := by kernel_rfl
theorem keyT : Tryz.prog.keyType 30 = true := by kernel_rfl
theorem keyC {s n : Int} (hs : (Lit.int .i64 s).wf = true) (hn : (Lit.int .i64 n).wf = true) : keyOf Tryz.prog 30 (.agg #[.int .i64 s, .int .i64 n]) = some (.string (keyBytes [.int .i64 s, .int .i64 n])) := by
  have u1 : Tryz.prog.underlying 3 = some (.int .i64) := Tryz.underlying3
  obtain ⟨m, hm⟩ := tsize
  unfold keyOf
  rw [Tryz.underlying30, hm]
  simp [keyT, Value.formed, Tryz.underlying30, cellsC, cellsI, Value.cells, Program.keyLits, u1, hs, hn]

/-- The codes of a set that have a character, of the numbers told; of the first sets. -/
def fkOf (s : Int) (l : List Int) : List (Int × Int) := (l.filter fun n => (cr s n).2).map fun n => (s, n)
def forthL (nums : Int → List Int) (j : Nat) : List (Int × Int) := (List.range j).flatMap fun (i : Nat) => fkOf ((i : Int) + 1) (nums ((i : Int) + 1))
def fc (c : Int × Int) : Value × Value := (.agg #[.int .i64 c.1, .int .i64 c.2], .int .i32 (cr c.1 c.2).1)
theorem forthL_succ (nums : Int → List Int) (j : Nat) : forthL nums (j + 1) = forthL nums j ++ fkOf ((j : Int) + 1) (nums ((j : Int) + 1)) := by simp [forthL, List.range_succ]
theorem mem_fk {s : Int} {l : List Int} {c : Int × Int} : c ∈ fkOf s l ↔ c.1 = s ∧ c.2 ∈ l ∧ (cr s c.2).2 = true := by
  obtain ⟨a, b⟩ := c
  simp only [fkOf, List.mem_map, List.mem_filter, Prod.mk.injEq]
  constructor
  · rintro ⟨n, ⟨h1, h2⟩, rfl, rfl⟩; exact ⟨rfl, h1, h2⟩
  · rintro ⟨rfl, h1, h2⟩; exact ⟨b, ⟨h1, h2⟩, rfl, rfl⟩
theorem mem_forth {nums : Int → List Int} {j : Nat} {c : Int × Int} : c ∈ forthL nums j ↔ 1 ≤ c.1 ∧ c.1 ≤ j ∧ c.2 ∈ nums c.1 ∧ (cr c.1 c.2).2 = true := by
  unfold forthL
  rw [List.mem_flatMap]
  constructor
  · rintro ⟨i, hi, h⟩
    obtain ⟨h1, h2, h3⟩ := mem_fk.1 h
    rw [List.mem_range] at hi
    rw [h1]
    exact ⟨by omega, by omega, h2, h3⟩
  · rintro ⟨h1, h2, h3, h4⟩
    refine ⟨(c.1 - 1).toNat, List.mem_range.2 (by omega), ?_⟩
    have e : (((c.1 - 1).toNat : Nat) : Int) + 1 = c.1 := by omega
    rw [e]
    exact mem_fk.2 ⟨rfl, h3, h4⟩
theorem fk_len (s : Int) (l : List Int) : (fkOf s l).length ≤ l.length := by
  unfold fkOf
  rw [List.length_map]
  exact List.length_filter_le _ _
theorem forth_len {nums : Int → List Int} : ∀ {j : Nat}, j ≤ 12 → (∀ s : Int, 1 ≤ s → s ≤ 12 → (nums s).length ≤ 10000) → (forthL nums j).length ≤ 10000 * j := by
  intro j
  induction j with
  | zero => intro _ _; simp [forthL]
  | succ j ih =>
    intro hj h
    rw [forthL_succ, List.length_append]
    have h1 := ih (by omega) h
    have h2 := fk_len ((j : Int) + 1) (nums ((j : Int) + 1))
    have h3 := h ((j : Int) + 1) (by omega) (by omega)
    omega
theorem fk_take (s : Int) (l : List Int) (i : Nat) (n : Int) (h : l[i]? = some n) : fkOf s (l.take (i + 1)) = fkOf s (l.take i) ++ (if (cr s n).2 then [(s, n)] else []) := by
  unfold fkOf
  rw [List.take_add_one, h, List.filter_append, List.map_append]
  congr 1
  cases hb : (cr s n).2 <;> simp [hb]
theorem fresh {nums : Int → List Int} {j i : Nat} {n : Int} (hn : (nums ((j : Int) + 1)).Nodup) (h : (nums ((j : Int) + 1))[i]? = some n) :
    ∀ y ∈ forthL nums j ++ fkOf ((j : Int) + 1) ((nums ((j : Int) + 1)).take i), (fc y).1 ≠ .agg #[.int .i64 ((j : Int) + 1), .int .i64 n] := by
  intro y hy e
  have e2 : y = ((j : Int) + 1, n) := codeV_inj e
  rcases List.mem_append.1 hy with hy | hy
  · have := (mem_forth.1 hy).2.1
    rw [e2] at this
    simp at this
    omega
  · have h2 := (mem_fk.1 hy).2.1
    rw [e2] at h2
    obtain ⟨m, hm, e3⟩ := List.getElem_of_mem h2
    rw [List.getElem_take] at e3
    rw [List.length_take] at hm
    have hi : i < (nums ((j : Int) + 1)).length := (List.getElem?_eq_some_iff.1 h).1
    have e4 : (nums ((j : Int) + 1))[m]? = (nums ((j : Int) + 1))[i]? := by
      rw [h, List.getElem?_eq_getElem (by omega), e3]
    have := (List.getElem?_inj (by omega) hn).1 e4
    omega

/-- A row of the call's own outlives what is done to one block ahead of it. -/
theorem own_grown {w w' : World} {base : Nat} {e : TypeId} {k : IntKind} {v : Value} {l : List Int} {B : Nat} (h : U.Own w base e k v l) (hB : B < base) (hg : w.grownBy w' (some B)) : U.Own w' base e k v l := by
  refine ⟨h.1, ?_⟩
  rcases h.2 with h | ⟨g, cap, cur, hv, hbg, hg2, rest⟩
  · exact .inl h
  · exact .inr ⟨g, cap, cur, hv, hbg, by rw [hg.block g (Array.getElem?_eq_some_iff.1 hg2).1 (by intro e; cases e; omega)]; exact hg2, rest⟩

def FRel (nums : Int → List Int) (w : World) (u : Value) (wr : World) : Prop := ∃ j : Nat, j ≤ 12 ∧ u = .int .i64 ((j : Int) + 1) ∧ MapIs Tryz.prog 30 wr w.heap.size (forthL nums j).length fc (forthL nums j) ∧ Bel w wr
def FIn (nums : Int → List Int) (w : World) (j : Nat) (lv : Value) (base : Nat) (u : Value) (wr : World) : Prop :=
  ∃ i : Nat, i ≤ (nums ((j : Int) + 1)).length ∧ u = .int .i64 i ∧ U.Own wr base 3 .i64 lv (nums ((j : Int) + 1)) ∧ Bel w wr ∧
    MapIs Tryz.prog 30 wr w.heap.size (forthL nums j ++ fkOf ((j : Int) + 1) ((nums ((j : Int) + 1)).take i)).length fc (forthL nums j ++ fkOf ((j : Int) + 1) ((nums ((j : Int) + 1)).take i))
def ForthPost (nums : Int → List Int) (w : World) (e : Ending) (w' : World) : Prop :=
  e = .returned (.map (some w.heap.size)) ∧ MapIs Tryz.prog 30 w' w.heap.size (forthL nums 12).length fc (forthL nums 12) ∧ Bel w w'
set_option maxRecDepth 100000 in
set_option maxHeartbeats 4000000 in
theorem forth_is (g : Nat) (cb : Array Value) (nums : Int → List Int) (w : World) (eg : ∀ args w, (callFunc g args).run Tryz.prog w = .ok (.enter g args) w) (hT : Tz w)
    (hok : ∀ s : Int, 1 ≤ s → s ≤ 12 → (nums s).length ≤ 10000 ∧ (nums s).Nodup ∧ ∀ n ∈ nums s, 0 ≤ n ∧ n ≤ 16777216)
    (hcall : ∀ s : Int, 1 ≤ s → s ≤ 12 → ∀ w', Bel w w' → Calls Tryz.prog g (#[.int .i64 s] ++ cb) w' (OwnPost w' (nums s))) :
    Calls Tryz.prog 19 #[.func (.func g) #[] cb] w (ForthPost nums w) := by
  have HC := Lib.hid hcall
  have HOK := Lib.hid hok
  have HT := Lib.hid hT
  have HR := Lib.hid (fun s n r b h1 h2 h3 w hw => rune_at s n r b h1 h2 h3 w hw)
  have hmm := @run_makeMap Tryz.prog
  clear hcall hok hT
  go_enter Tryz.func19, Tryz.ntmps19
  go_wp2
  go_loopw [4] (fun u wr => FRel nums w u wr) (fun u _ => 14 - (intOf u).toNat)
  case atStart => exact ⟨0, by omega, rfl, MapIs.made _ _, (Bel.refl _).alloc _⟩
  case round =>
    obtain ⟨j, hj, rfl, hmap, hB⟩ := hrel
    have HM := Lib.hid hmap
    have HB := Lib.hid hB
    clear hmap hB
    by_cases hlt : j < 12
    · have q0 : decide ((j : Int) + 1 ≤ 12) = true := by simp; omega
      have q1 : wrap64 ((j : Int) + 1 + 1) = ((j + 1 : Nat) : Int) + 1 := by unfold wrap64; omega
      have hc1 := HC.out ((j : Int) + 1) (by omega) (by omega) wr HB.out
      obtain ⟨hl, hnd, hfit⟩ := HOK.out ((j : Int) + 1) (by omega) (by omega)
      obtain ⟨l, hl0⟩ : ∃ l, nums ((j : Int) + 1) = l := ⟨_, rfl⟩
      have HF := Lib.hid (fun i n h => fresh (nums := nums) (j := j) (i := i) (n := n) hnd h)
      have HFit := Lib.hid hfit
      have HLen := Lib.hid (forth_len (nums := nums) (j := j) (by omega) (fun s h1 h2 => (HOK.out s h1 h2).1))
      rw [hl0] at HF HFit hl hc1
      go_wp2_with (first | (go_at_fn g; refine hc1.mono ?_; rintro e w1 ⟨lv, rfl, hown, hb1⟩; obtain ⟨A, cap, rfl, hcap, hrd, hA⟩ := hown.rd; have HOw := Lib.hid hown; have HBw := Lib.hid (HB.out.trans hb1); have HMw := Lib.hid (HM.out.below hb1); clear hown hb1 hrd hA hcap) | fail)
      have hlw : wrap64 (l.length : Int) = (l.length : Int) := by unfold wrap64; omega
      go_loopw [19] (fun u wr2 => FIn nums w j (.slice A l.length cap) wr.heap.size u wr2) (fun u _ => l.length - (intOf u).toNat)
      case atStart => exact ⟨0, by omega, rfl, by rw [hl0]; exact HOw.out, HBw.out, by simpa [fkOf] using HMw.out⟩
      case round =>
        obtain ⟨i, hi, rfl, hown, hB2, hmap⟩ := hrel
        rw [hl0] at hi hown hmap
        have HO2 := Lib.hid hown
        have HB2 := Lib.hid hB2
        have HM2 := Lib.hid hmap
        clear hown hB2 hmap
        by_cases hil : i < l.length
        · have p0 : decide ((i : Int) < (l.length : Int)) = true := by simp; omega
          have p1 : wrap64 ((i : Int) + 1) = ((i + 1 : Nat) : Int) := by unfold wrap64; omega
          obtain ⟨x, hx⟩ : ∃ x, l[i]? = some x := ⟨_, List.getElem?_eq_getElem hil⟩
          obtain ⟨A', cap', eA, hcap, hrd, hA⟩ := HO2.out.rd
          cases eA
          obtain ⟨g0, off, rfl, _, _⟩ := hrd.isSome (by omega)
          have c0 := hrd.at hx
          have HX := Lib.hid hx
          obtain ⟨r, b, hcr⟩ : ∃ r b, cr ((j : Int) + 1) x = (r, b) := ⟨_, _, rfl⟩
          have HCr := Lib.hid hcr
          clear hrd hA hcap hx hcr
          have HBa : Hid (Bel w (wr.alloc (.cells #[.int .i64 ((j : Int) + 1), .int .i64 x] 30))) := Lib.hid (HB2.out.alloc _)
          have hfx := HFit.out x (List.mem_of_getElem? HX.out)
          go_wp2_with fail
          refine (HR.out _ _ _ _ (by omega) (by omega) HCr.out _ (HT.out.bel HBa.out)).mono ?_
          rintro e w2 ⟨rfl, hb2⟩
          have hg1 : w2.heap[wr.heap.size]? = some (.cells #[.int .i64 ((j : Int) + 1), .int .i64 x] 30 (0, 0)) := (hb2.block _ (by simp)).trans (heap_alloc_last wr _)
          have d0 : w2.cell? ⟨wr.heap.size, 0, none⟩ = some (.int .i64 ((j : Int) + 1)) := by simp [World.cell?, hg1]
          have d1 : w2.cell? ⟨wr.heap.size, 1, none⟩ = some (.int .i64 x) := by simp [World.cell?, hg1]
          have HM3 := Lib.hid ((HM2.out.alloc _).below hb2)
          have HO3 := Lib.hid ((HO2.out.keep ((Bel.refl wr).alloc _)).keep hb2)
          have HB3 := Lib.hid (Bel.trans HBa.out hb2)
          have hE : (cr ((j : Int) + 1) x).2 = b := by rw [HCr.out]
          clear hg1
          cases b with
          | false =>
            go_wp2
            refine ⟨⟨i + 1, by rw [hl0]; omega, by simp, by rw [hl0]; exact HO3.out, HB3.out, ?_⟩, by simp [intOf]; omega⟩
            rw [hl0, fk_take _ _ _ _ HX.out, hE]
            simpa using HM3.out
          | true =>
            have hkey := keyC (s := (j : Int) + 1) (n := x) (WalkArith.wf_i64 (by omega)) (WalkArith.wf_i64 (by omega))
            have hroom : (forthL nums j ++ fkOf ((j : Int) + 1) (l.take i)).length < maxLen := by
              have h1 := HLen.out
              have h2 := fk_len ((j : Int) + 1) (l.take i)
              rw [List.length_take] at h2
              rw [List.length_append]
              unfold maxLen
              omega
            have hfr := HF.out i x HX.out
            have hfc : fc ((j : Int) + 1, x) = (.agg #[.int .i64 ((j : Int) + 1), .int .i64 x], .int .i32 r) := by
              show (_, Value.int .i32 (cr ((j : Int) + 1) x).1) = _
              rw [HCr.out]
            go_wp2_with (first | (at_mapUpdate; refine wpl_add (by rfl) _ _ _ 45 rfl lawC Tryz.underlying45 ((j : Int) + 1, x) rfl HM3.out hroom rfl rfl hkey hfc hfr ?_; intro w3 hm3 hg3) | fail)
            refine ⟨⟨i + 1, by rw [hl0]; omega, by simp, by rw [hl0]; exact own_grown HO3.out (Nat.lt_of_lt_of_le HM.out.lt (Nat.le_refl _)) hg3, Below.grown HB3.out hg3 (Below.size HB3.out) (by intro k hk; cases hk; exact Nat.le_refl _), ?_⟩, by simp [intOf]; omega⟩
            rw [hl0, fk_take _ _ _ _ HX.out, hE, if_pos rfl, ← List.append_assoc, List.length_append, List.length_singleton]
            exact hm3
        · obtain rfl : i = l.length := by omega
          have p0 : decide ((l.length : Int) < (l.length : Int)) = false := by simp
          go_wp2
          have hm := HM2.out
          rw [List.take_length] at hm
          refine ⟨⟨j + 1, by omega, by simp, ?_, HB2.out⟩, by simp [intOf]; omega⟩
          rw [forthL_succ, hl0]
          exact hm
    · obtain rfl : j = 12 := by omega
      go_wp2
      go_ret
      exact ⟨rfl, HM.out, HB.out⟩
end Go.Proofs.YtipigfgnpfhdbaaGreatDoor.G
namespace Go.Proofs.YtipigfgnpfhdbaaGreatDoor.G
open Go.RowKit U M
set_option linter.unusedVariables false

abbrev Cd := Int × Int
def rn (c : Cd) : Int := (cr c.1 c.2).1
/-- A character, its row's block and room, its codes. -/
abbrev Gr := Int × Nat × Nat × List Cd
def Grouped (D : List Cd) (G : List Gr) : Prop := (∀ x ∈ G, x.2.2.2 = D.filter (fun c => rn c == x.1) ∧ x.2.2.2 ≠ []) ∧ ∀ c ∈ D, ∃ x ∈ G, x.1 = rn c
theorem Grouped.nil : Grouped [] [] := ⟨fun x hx => (by cases hx), fun c hc => (by cases hc)⟩
theorem filter_add {D : List Cd} {c : Cd} (r : Int) : (D ++ [c]).filter (fun d => rn d == r) = D.filter (fun d => rn d == r) ++ (if rn c = r then [c] else []) := by
  rw [List.filter_append]
  by_cases h : rn c = r
  · rw [if_pos h]; simp [h]
  · rw [if_neg h]; simp [h]
theorem Grouped.fresh {D : List Cd} {G : List Gr} {c : Cd} (h : Grouped D G) (hne : ∀ y ∈ G, y.1 ≠ rn c) (g cap : Nat) : Grouped (D ++ [c]) (G ++ [(rn c, g, cap, [c])]) := by
  refine ⟨fun x hx => ?_, fun d hd => ?_⟩
  · rcases List.mem_append.1 hx with hx | hx
    · obtain ⟨h1, h2⟩ := h.1 x hx
      refine ⟨?_, h2⟩
      rw [filter_add, if_neg (fun e => hne x hx e.symm), List.append_nil]
      exact h1
    · simp at hx
      subst hx
      refine ⟨?_, by simp⟩
      rw [filter_add, if_pos rfl]
      have : D.filter (fun d => rn d == rn c) = [] := by
        rw [List.filter_eq_nil_iff]
        intro d hd e
        obtain ⟨y, hy, hy2⟩ := h.2 d hd
        exact hne y hy (by rw [hy2]; simpa using e)
      rw [this]
      rfl
  · rcases List.mem_append.1 hd with hd | hd
    · obtain ⟨x, hx, e⟩ := h.2 d hd
      exact ⟨x, by simp [hx], e⟩
    · simp at hd
      subst hd
      exact ⟨_, List.mem_append_right _ (List.mem_singleton.2 rfl), rfl⟩
/-- The group of r, its row replaced. -/
def repl (r : Int) (g cap : Nat) (c : Cd) (y : Gr) : Gr := if y.1 = r then (y.1, g, cap, y.2.2.2 ++ [c]) else y
theorem repl_key (r : Int) (g cap : Nat) (c : Cd) (y : Gr) : (repl r g cap c y).1 = y.1 := by unfold repl; split <;> rfl
theorem Grouped.more {D : List Cd} {G : List Gr} {c : Cd} (h : Grouped D G) (hex : ∃ x ∈ G, x.1 = rn c) (g cap : Nat) : Grouped (D ++ [c]) (G.map (repl (rn c) g cap c)) := by
  refine ⟨fun x hx => ?_, fun d hd => ?_⟩
  · obtain ⟨y, hy, rfl⟩ := List.mem_map.1 hx
    obtain ⟨h1, h2⟩ := h.1 y hy
    by_cases e : y.1 = rn c
    · unfold repl
      rw [if_pos e]
      refine ⟨?_, by simp⟩
      show y.2.2.2 ++ [c] = _
      rw [filter_add, if_pos e.symm, ← h1]
    · unfold repl
      rw [if_neg e]
      refine ⟨?_, h2⟩
      rw [filter_add, if_neg (fun k => e k.symm), List.append_nil]
      exact h1
  · rcases List.mem_append.1 hd with hd | hd
    · obtain ⟨x, hx, e⟩ := h.2 d hd
      exact ⟨_, List.mem_map.2 ⟨x, hx, rfl⟩, (repl_key _ _ _ _ _).trans e⟩
    · simp at hd
      subst hd
      obtain ⟨x, hx, e⟩ := hex
      exact ⟨_, List.mem_map.2 ⟨x, hx, rfl⟩, (repl_key _ _ _ _ _).trans e⟩

def hdrV (x : Gr) : Value := .slice (some ⟨x.2.1, 0, none⟩) x.2.2.2.length x.2.2.1
def rnV (x : Gr) : Value := .int .i32 x.1
def fg (x : Gr) : Value × Value := (rnV x, hdrV x)
theorem rnV_inj {x y : Gr} (h : rnV x = rnV y) : x.1 = y.1 := by
  unfold rnV at h
  injection h
theorem repl_map_keys (r : Int) (g cap : Nat) (c : Cd) (G : List Gr) : ((G.map (repl r g cap c)).map fun x => (fg x).1) = G.map fun x => (fg x).1 := by
  rw [List.map_map]
  apply List.map_congr_left
  intro y _
  show rnV _ = rnV _
  unfold rnV
  rw [repl_key]
theorem repl_all {G : List Gr} {r : Int} {g cap : Nat} {c : Cd} {x : Gr} (hn : (G.map fun x => (fg x).1).Nodup) (hx : x ∈ G) (hr : x.1 = r) (cc : Value × Value) :
    (∃ y ∈ G.map (repl r g cap c), fg y = cc) ↔ (cc = (.int .i32 r, .slice (some ⟨g, 0, none⟩) (x.2.2.2.length + 1) cap) ∨ (cc.1 ≠ .int .i32 r ∧ ∃ y ∈ G, fg y = cc)) := by
  have one : ∀ y ∈ G, y.1 = r → y = x := fun y hy e => key_inj hn hy hx (by show rnV y = rnV x; unfold rnV; rw [e, hr])
  constructor
  · rintro ⟨z, hz, rfl⟩
    obtain ⟨y, hy, rfl⟩ := List.mem_map.1 hz
    by_cases e : y.1 = r
    · left
      obtain rfl := one y hy e
      unfold fg rnV hdrV repl
      rw [if_pos e]
      simp [e]
    · right
      unfold repl
      rw [if_neg e]
      refine ⟨fun k => e ?_, y, hy, rfl⟩
      unfold fg rnV at k
      injection k
  · rintro (rfl | ⟨hne, y, hy, rfl⟩)
    · refine ⟨repl r g cap c x, List.mem_map.2 ⟨x, hx, rfl⟩, ?_⟩
      unfold fg rnV hdrV repl
      rw [if_pos hr]
      simp [hr]
    · refine ⟨repl r g cap c y, List.mem_map.2 ⟨y, hy, rfl⟩, ?_⟩
      unfold repl
      rw [if_neg (fun e => hne (by unfold fg rnV; rw [e]))]

/-- A code's cells. -/
def encC (c : Cd) : List Value := [.int .i64 c.1, .int .i64 c.2]
theorem encC_len (l : List Cd) : (l.flatMap encC).length = l.length * 2 := by
  induction l with
  | nil => rfl
  | cons a l ih => rw [List.flatMap_cons, List.length_append, ih, List.length_cons]; simp [encC]; omega
theorem encC_one (l : List Cd) : ∀ u ∈ l.flatMap encC, u.oneCell' = true := fun u hu => by
  obtain ⟨e, _, h⟩ := List.mem_flatMap.1 hu
  simp [encC] at h
  rcases h with rfl | rfl <;> rfl
/-- The rows are the call's own, no two one. -/
def OwnC (w : World) (base : Nat) (v : Value) (l : List Cd) : Prop := w.ownsRow base 30 2 v l.length (l.flatMap encC)
def RowsOk (w : World) (base : Nat) (G : List Gr) : Prop := (∀ x ∈ G, OwnC w base (hdrV x) x.2.2.2) ∧ (G.map (·.2.1)).Nodup
theorem OwnC.kept {w w' : World} {base : Nat} {v : Value} {l : List Cd} {row : Option Nat} (h : OwnC w base v l) (hg : w.grownBy w' row) (hne : ∀ g, v.ownBlock = some g → row ≠ some g) : OwnC w' base v l := by
  refine ⟨h.1, ?_⟩
  rcases h.2 with h | ⟨g, cap, cur, hv, hbg, hg2, rest⟩
  · exact .inl h
  · refine .inr ⟨g, cap, cur, hv, hbg, ?_, rest⟩
    rw [hg.block g (Array.getElem?_eq_some_iff.1 hg2).1 (fun e => hne g (by rw [hv]; rfl) e.symm)]
    exact hg2
end Go.Proofs.YtipigfgnpfhdbaaGreatDoor.G
namespace Go.Proofs.YtipigfgnpfhdbaaGreatDoor.G
open Go.RowKit U M
open Go.Maps (Keyed)
set_option linter.unusedVariables false

theorem infoC : (Tryz.prog.info? 30).map (fun i => (i.zero, i.size, i.bytes)) = some (some (.agg #[.int .i64 0, .int .i64 0]), 2, 16) := by kernel_rfl
theorem zeroSl (w : World) : (zeroValue 25).run Tryz.prog w = .ok (.slice none 0 0) w := by kernel_rfl
theorem two_new (w : World) (c : Cd) : ∀ j u, (encC c)[j]? = some u → (w.alloc (.cells #[.int .i64 c.1, .int .i64 c.2] 30)).cell? ((⟨w.heap.size, 0, none⟩ : Addr).add j) = some u := by
  intro j u hj
  match j, hj with
  | 0, hj => simp [encC] at hj; subst hj; simp [Addr.add, go_sem]
  | 1, hj => simp [encC] at hj; subst hj; simp [Addr.add, go_sem]
theorem OwnC.block {w : World} {base : Nat} {v : Value} {l : List Cd} {g : Nat} (h : OwnC w base v l) (e : v.ownBlock = some g) : base ≤ g ∧ g < w.heap.size := by
  rcases h.2 with ⟨rfl, _⟩ | ⟨g2, cap, cur, rfl, hbg, hg2, _⟩
  · cases e
  · have : g2 = g := by simpa [Value.ownBlock] using e
    subst this
    exact ⟨hbg, (Array.getElem?_eq_some_iff.1 hg2).1⟩
theorem OwnC.low {w w' : World} {base B : Nat} {v : Value} {l : List Cd} (h : OwnC w base v l) (hB : B < base) (hg : w.grownBy w' (some B)) : OwnC w' base v l :=
  h.kept hg fun g e k => by
    cases k
    have := (h.block e).1
    omega
theorem OwnC.still {w w' : World} {base : Nat} {v : Value} {l : List Cd} (h : OwnC w base v l) (hg : w.grownBy w' none) : OwnC w' base v l := h.kept hg fun g e k => by cases k
theorem hdr_block (x : Gr) : (hdrV x).ownBlock = some x.2.1 := rfl
theorem RowsOk.low {w w' : World} {base B : Nat} {G : List Gr} (h : RowsOk w base G) (hB : B < base) (hg : w.grownBy w' (some B)) : RowsOk w' base G := ⟨fun x hx => (h.1 x hx).low hB hg, h.2⟩
theorem RowsOk.still {w w' : World} {base : Nat} {G : List Gr} (h : RowsOk w base G) (hg : w.grownBy w' none) : RowsOk w' base G := ⟨fun x hx => (h.1 x hx).still hg, h.2⟩
theorem RowsOk.alloc {w : World} {base : Nat} {G : List Gr} (h : RowsOk w base G) (o : Obj) : RowsOk (w.alloc o) base G := h.still (World.grownBy_alloc w o none)
/-- A header that is not nil. -/
theorem own_shape {w : World} {base n : Nat} {v : Value} {xs : List Value} (h : w.ownsRow base 30 2 v (n + 1) xs) : ∃ g cap, v = .slice (some ⟨g, 0, none⟩) (n + 1) cap ∧ v.ownBlock = some g := by
  rcases h.2 with ⟨_, h0⟩ | ⟨g, cap, cur, rfl, _⟩
  · omega
  · exact ⟨g, cap, rfl, rfl⟩
theorem flat_one (c : Cd) : [c].flatMap encC = encC c := by simp
theorem nodup_blocks {w : World} {base : Nat} {G : List Gr} (h : RowsOk w base G) {x : Gr} (hx : x ∈ G) : x.2.1 < w.heap.size := ((h.1 x hx).block (hdr_block x)).2
theorem block_inj {G : List Gr} (hn : (G.map (·.2.1)).Nodup) {x y : Gr} (hx : x ∈ G) (hy : y ∈ G) (e : x.2.1 = y.2.1) : x = y := by
  induction G with
  | nil => cases hx
  | cons a l ih =>
    simp only [List.map_cons, List.nodup_cons, List.mem_map, not_exists, not_and] at hn
    rcases List.mem_cons.1 hx with rfl | hx'
    · rcases List.mem_cons.1 hy with rfl | hy'
      · rfl
      · exact absurd e.symm (hn.1 y hy')
    · rcases List.mem_cons.1 hy with rfl | hy'
      · exact absurd e (hn.1 x hx')
      · exact ih hn.2 hx' hy'
/-- The blocks, one replaced by one that no other group has. -/
theorem repl_blocks {G : List Gr} {r : Int} {g cap : Nat} {c : Cd} {y : Gr} (hk : ∀ z ∈ G, z.1 = r → z = y) (hn : (G.map (·.2.1)).Nodup) (hg : ∀ z ∈ G, z ≠ y → z.2.1 ≠ g) : ((G.map (repl r g cap c)).map (·.2.1)).Nodup := by
  rw [List.map_map]
  rw [List.nodup_iff_pairwise_ne, List.pairwise_map] at hn ⊢
  refine hn.imp_of_mem ?_
  intro a b ha hb hab
  show (repl r g cap c a).2.1 ≠ (repl r g cap c b).2.1
  unfold repl
  by_cases ea : a.1 = r
  · by_cases eb : b.1 = r
    · have h1 := hk a ha ea
      have h2 := hk b hb eb
      rw [h1, h2] at hab
      exact absurd rfl hab
    · rw [if_pos ea, if_neg eb]
      intro e
      refine hg b hb (fun k => eb ?_) e.symm
      rw [k, ← hk a ha ea]
      exact ea
  · by_cases eb : b.1 = r
    · rw [if_neg ea, if_pos eb]
      refine hg a ha (fun k => ea ?_)
      rw [k, ← hk b hb eb]
      exact eb
    · rw [if_neg ea, if_neg eb]
      exact hab
theorem Grouped.len {D : List Cd} {G : List Gr} (h : Grouped D G) {x : Gr} (hx : x ∈ G) : x.2.2.2.length ≤ D.length := by
  rw [(h.1 x hx).1]
  exact List.length_filter_le _ _

/-- One more code. -/
theorem rows_step {w : World} {base : Nat} {G : List Gr} {D : List Cd} {c : Cd} {v : Value} (hR : RowsOk w base G) (hG : Grouped D G) (hn : (G.map fun x => (fg x).1).Nodup)
    (hv : (∃ y ∈ G, fg y = (.int .i32 (rn c), v)) ∨ (v = .slice none 0 0 ∧ ∀ y ∈ G, (fg y).1 ≠ .int .i32 (rn c))) :
    ∃ l : List Cd, OwnC w base v l ∧ l.length ≤ D.length ∧ ∀ v' w', w'.ownsRow base 30 2 v' (l.length + 1) (l.flatMap encC ++ encC c) → w.grownBy w' v.ownBlock → (v'.ownBlock = v.ownBlock ∨ v'.ownBlock = some w.heap.size) →
      ∃ G' : List Gr, Grouped (D ++ [c]) G' ∧ (G'.map fun x => (fg x).1).Nodup ∧ (∀ cc : Value × Value, (∃ x ∈ G', fg x = cc) ↔ (cc = (.int .i32 (rn c), v') ∨ (cc.1 ≠ .int .i32 (rn c) ∧ ∃ x ∈ G, fg x = cc))) ∧ RowsOk w' base G' := by
  rcases hv with ⟨y, hy, e⟩ | ⟨rfl, hne⟩
  · have e1 : y.1 = rn c := by
      have : rnV y = .int .i32 (rn c) := congrArg Prod.fst e
      unfold rnV at this
      injection this
    have e2 : hdrV y = v := congrArg Prod.snd e
    subst e2
    have hk : ∀ z ∈ G, z.1 = rn c → z = y := fun z hz ez => key_inj hn hz hy (by show rnV z = rnV y; unfold rnV; rw [ez, e1])
    refine ⟨y.2.2.2, hR.1 y hy, hG.len hy, fun v' w' hown hgr hloc => ?_⟩
    obtain ⟨g, cap, rfl, hgb⟩ := own_shape hown
    refine ⟨G.map (repl (rn c) g cap c), hG.more ⟨y, hy, e1⟩ g cap, ?_, ?_, ?_, ?_⟩
    · rw [repl_map_keys]; exact hn
    · exact repl_all hn hy e1
    · intro x hx
      obtain ⟨z, hz, rfl⟩ := List.mem_map.1 hx
      by_cases ez : z.1 = rn c
      · obtain rfl := hk z hz ez
        unfold repl
        rw [if_pos ez]
        show w'.ownsRow base _ 2 (.slice (some ⟨g, 0, none⟩) (z.2.2.2 ++ [c]).length cap) (z.2.2.2 ++ [c]).length ((z.2.2.2 ++ [c]).flatMap encC)
        rw [List.length_append, List.flatMap_append, flat_one]
        exact hown
      · unfold repl
        rw [if_neg ez]
        refine (hR.1 z hz).kept hgr fun h e k => ?_
        rw [hdr_block] at e k
        have : z = y := block_inj hR.2 hz hy (by simp at e k; omega)
        exact ez (by rw [this]; exact e1)
    · refine repl_blocks hk hR.2 fun z hz hzy e => ?_
      rcases hloc with h | h
      · rw [hgb, hdr_block] at h
        exact hzy (block_inj hR.2 hz hy (by simp at h; omega))
      · rw [hgb] at h
        have h1 := nodup_blocks hR hz
        simp at h
        omega
  · refine ⟨[], World.ownsRow_nil w base _ 2, by simp, fun v' w' hown hgr hloc => ?_⟩
    obtain ⟨g, cap, rfl, hgb⟩ := own_shape hown
    have hgs : g = w.heap.size := by
      rcases hloc with h | h
      · rw [hgb] at h; cases h
      · rw [hgb] at h; simpa using h
    have hne1 : ∀ z ∈ G, z.1 ≠ rn c := fun z hz ez => hne z hz (by show rnV z = _; unfold rnV; rw [ez])
    refine ⟨G ++ [(rn c, g, cap, [c])], hG.fresh hne1 g cap, add_nodup hn (fun z hz => by show (fg z).1 ≠ rnV (rn c, g, cap, [c]); exact hne z hz), add_all rfl hne, ?_, ?_⟩
    · intro x hx
      rcases List.mem_append.1 hx with hx | hx
      · exact (hR.1 x hx).still hgr
      · simp at hx
        subst hx
        show w'.ownsRow base _ 2 (.slice (some ⟨g, 0, none⟩) 1 cap) 1 ([c].flatMap encC)
        rw [flat_one]
        exact hown
    · rw [List.map_append, List.nodup_append]
      refine ⟨hR.2, by simp, fun a ha d hd e => ?_⟩
      obtain ⟨z, hz, rfl⟩ := List.mem_map.1 ha
      simp at hd
      have := nodup_blocks hR hz
      omega
end Go.Proofs.YtipigfgnpfhdbaaGreatDoor.G
namespace Go.Proofs.YtipigfgnpfhdbaaGreatDoor.G
open Go.RowKit U M
open Go.Sort (HoldsK Holds flatK putRowK putRow mapBlock putCells onCells SWO)
set_option linter.unusedVariables false

def cf (x y : Cd) : Int := orV (sg x.1 y.1) (sg x.2 y.2)
/-- By sets, then numbers. -/
def ltC (x y : Cd) : Bool := decide (x.1 < y.1 ∨ (x.1 = y.1 ∧ x.2 < y.2))
theorem lt_cf (x y : Cd) : ltOf cf x y = ltC x y := by
  unfold ltOf cf ltC orV sg
  by_cases h1 : x.1 < y.1
  · simp [h1]
  · by_cases h2 : y.1 < x.1
    · have h3 : ¬ x.1 = y.1 := by omega
      simp [h1, h2, h3]
    · have h3 : x.1 = y.1 := by omega
      by_cases h4 : x.2 < y.2
      · simp [h3, h4]
      · by_cases h5 : y.2 < x.2
        · simp [h3, h4, h5]
        · simp [h3, h4, h5]
theorem ltC_irrefl (x : Cd) : ltC x x = false := by unfold ltC; simp
theorem ltC_iff (x y : Cd) : ltC x y = true ↔ (x.1 < y.1 ∨ (x.1 = y.1 ∧ x.2 < y.2)) := by unfold ltC; simp
theorem ltC_not (x y : Cd) : ltC x y = false ↔ ¬ (x.1 < y.1 ∨ (x.1 = y.1 ∧ x.2 < y.2)) := by unfold ltC; simp
theorem swoC : SWO (ltOf cf) where
  irrefl x := by rw [lt_cf]; exact ltC_irrefl x
  trans x y z h1 h2 := by
    rw [lt_cf, ltC_iff] at *
    omega
  ntrans x y z h1 h2 := by
    rw [lt_cf, ltC_not] at *
    omega
theorem totC (x y : Cd) (h1 : ltOf cf x y = false) (h2 : ltOf cf y x = false) : x = y := by
  rw [lt_cf, ltC_not] at *
  exact Prod.ext (by omega) (by omega)
theorem compare_lays (blk off size : Nat) (w : World) : CmpLays Tryz.prog 33 #[] encC 2 cf blk off size w := fun m os dk hs x y =>
  (compare_walk x.1 x.2 y.1 y.2 (cf x y) _ rfl)

theorem encC_size (x : Cd) : (encC x).length = 2 := rfl
theorem encC_cell (x : Cd) : ∀ v ∈ encC x, v.oneCell' = true := fun v hv => by
  simp [encC] at hv
  rcases hv with rfl | rfl <;> rfl
theorem flat_get : ∀ (l : List Cd) (t : Nat), t < l.length * 2 → (l.flatMap encC)[t]? = (encC (l.toArray[t / 2]!))[t % 2]? := by
  intro l
  induction l with
  | nil => intro t h; simp at h
  | cons a l ih =>
    intro t h
    rw [List.flatMap_cons]
    rcases Nat.lt_or_ge t 2 with ht | ht
    · rw [List.getElem?_append_left (by rw [encC_size]; exact ht)]
      have e1 : t / 2 = 0 := by omega
      have e2 : t % 2 = t := by omega
      rw [e1, e2]
      simp
    · rw [List.getElem?_append_right (by rw [encC_size]; exact ht), encC_size]
      rw [ih (t - 2) (by simp at h; omega)]
      have e1 : t / 2 = (t - 2) / 2 + 1 := by omega
      have e2 : t % 2 = (t - 2) % 2 := by omega
      have h3 : (t - 2) / 2 < l.length := by simp at h; omega
      rw [e1, e2]
      simp [h3]
theorem flatK_is (l : List Cd) : (flatK encC 2 l.toArray).toList = l.flatMap encC := by
  apply List.ext_getElem?
  intro t
  by_cases ht : t < l.length * 2
  · rw [flat_get l t ht]
    have hs : t < (flatK encC 2 l.toArray).size := by simpa using ht
    have h2 : t % 2 < (encC l.toArray[t / 2]!).length := by rw [encC_size]; omega
    have hg := Go.Sort.get_flatK encC 2 l.toArray t (by simpa using ht)
    rw [Array.getElem?_toList, Array.getElem?_eq_getElem hs]
    rw [getElem!_pos (flatK encC 2 l.toArray) t hs, getElem!_pos (encC l.toArray[t / 2]!) (t % 2) h2] at hg
    rw [hg, List.getElem?_eq_getElem h2]
  · rw [List.getElem?_eq_none (by simpa using ht), List.getElem?_eq_none (by rw [encC_len]; omega)]

theorem own_holds {w : World} {base g cap : Nat} {l : List Cd} (h : OwnC w base (.slice (some ⟨g, 0, none⟩) l.length cap) l) : HoldsK encC 2 w g 0 l.toArray := by
  rcases h.2 with ⟨e, _⟩ | ⟨g', cap', cur, e, hbg, hg2, hnc, hcm, hcs, htake⟩
  · cases e
  · simp only [Value.slice.injEq, Option.some.injEq, Addr.mk.injEq] at e
    obtain ⟨⟨rfl, _⟩, _, rfl⟩ := e
    intro j hj
    have hj2 : j < l.length * 2 := by simpa using hj
    have hjc : j < cur.size := by omega
    refine ⟨?_, by simp [World.frozen?, hg2]⟩
    have e1 : (flatK encC 2 l.toArray).toList[j]? = cur.toList[j]? := by
      rw [flatK_is, ← htake, List.getElem?_take, if_pos hj2]
    rw [Array.getElem?_toList, Array.getElem?_toList, Array.getElem?_eq_getElem hj, Array.getElem?_eq_getElem hjc] at e1
    rw [getElem!_pos (flatK encC 2 l.toArray) j hj]
    show _ = some (flatK encC 2 l.toArray)[j]
    rw [Option.some.inj e1]
    simp [World.cell?, hg2, hjc]
theorem put_take (cur F : Array Value) (h : F.size ≤ cur.size) : (putCells id 0 F cur).toList.take F.size = F.toList := by
  apply List.ext_getElem?
  intro t
  rw [List.getElem?_take]
  by_cases ht : t < F.size
  · rw [if_pos ht, Array.getElem?_toList, Array.getElem?_toList]
    unfold putCells
    rw [Array.getElem?_mapIdx, Array.getElem?_eq_getElem (by omega : t < cur.size), Array.getElem?_eq_getElem ht]
    simp [ht]
  · rw [if_neg ht, List.getElem?_eq_none (by simp; omega)]
theorem sorted_own {w : World} {base g cap n : Nat} {l l' : List Cd} {os : Array Obj} (h : OwnC w base (.slice (some ⟨g, 0, none⟩) l.length cap) l) (hl : l'.length = l.length) :
    OwnC (sortWorldK encC 2 w g 0 n l'.toArray os) base (.slice (some ⟨g, 0, none⟩) l'.length cap) l' ∧ w.grownBy (sortWorldK encC 2 w g 0 n l'.toArray os) (some g) := by
  rcases h.2 with ⟨e, _⟩ | ⟨g', cap', cur, e, hbg, hg2, hnc, hcm, hcs, htake⟩
  · cases e
  · simp only [Value.slice.injEq, Option.some.injEq, Addr.mk.injEq] at e
    obtain ⟨⟨rfl, _⟩, _, rfl⟩ := e
    have hlt := (Array.getElem?_eq_some_iff.1 hg2).1
    have hheap : ∀ k, k < w.heap.size → (sortWorldK encC 2 w g 0 n l'.toArray os).heap[k]? = if k = g then some (.cells (putCells id 0 (flatK encC 2 l'.toArray) cur) 30 (0, 0)) else w.heap[k]? := by
      intro k hk
      unfold sortWorldK putRowK putRow mapBlock Go.Sort.grow Go.Sort.ahead
      simp only
      rw [Array.getElem?_append_left (by simpa using hk), Array.getElem?_modify]
      by_cases e : g = k
      · subst e
        rw [if_pos rfl, if_pos rfl, hg2]
        rfl
      · rw [if_neg e, if_neg (fun k2 => e k2.symm)]
    refine ⟨⟨by rw [encC_len], .inr ⟨g, cap, _, rfl, hbg, by rw [hheap g hlt, if_pos rfl], by omega, hcm, ?_, ?_⟩⟩, rfl, rfl, rfl, ?_, fun k hk hne => by rw [hheap k hk, if_neg (fun e => hne (by rw [e]))]⟩
    · unfold putCells
      rw [Array.size_mapIdx]
      exact hcs
    · have hs : (flatK encC 2 l'.toArray).size = l'.length * 2 := by simp
      have := put_take cur (flatK encC 2 l'.toArray) (by rw [hs, hcs, hl]; exact Nat.mul_le_mul_right _ hnc)
      rw [hs] at this
      rw [this, flatK_is]
    · unfold sortWorldK Go.Sort.grow
      simp only [Array.size_append]
      unfold putRowK
      rw [Go.Sort.size_putRow]
      exact Nat.le_add_right _ _

/-- By sets, then numbers: each list in one order. -/
def sortC (l : List Cd) : List Cd := l.mergeSort fun x y => !ltC y x
theorem sortC_len (l : List Cd) : (sortC l).length = l.length := by unfold sortC; exact List.length_mergeSort l
theorem sortC_perm (l : List Cd) : (sortC l).Perm l := List.mergeSort_perm l _
theorem isAggC : ∀ w, (isAgg 30).run Tryz.prog w = .ok true w := Tryz.isAgg30
theorem sizeOfC : ∀ w, (Go.sizeOf 30).run Tryz.prog w = .ok 2 w := Tryz.sizeOf30
theorem sort_is {w : World} {base g cap : Nat} {l : List Cd} (h : OwnC w base (.slice (some ⟨g, 0, none⟩) l.length cap) l) (hsz : l.length < 4611686018427387904) :
    Calls Tryz.prog 32 #[.slice (some ⟨g, 0, none⟩) l.length cap, .func (.func 33) #[] #[]] w fun e w' =>
      e = .returned (.tuple #[]) ∧ OwnC w' base (.slice (some ⟨g, 0, none⟩) l.length cap) (sortC l) ∧ w.grownBy w' (some g) := by
  have eg : ∀ args w, (callFunc 33 args).run Tryz.prog w = .ok (.enter 33 args) w := enters_of Tryz.func33 (by kernel_rfl) rfl
  have hlt := (h.block rfl).2
  have hcon := AnyQ.slices_SortFunc_total sortLay 2 isAggC sizeOfC encC encC_size encC_cell cf swoC 33 #[] g 0 cap l.toArray w eg (compare_lays g 0 _ w) (own_holds h) hlt (by simpa using hsz) totC
  rw [show l.toArray.size = l.length by simp] at hcon
  change Calls Tryz.prog 32 _ _ _ at hcon
  refine hcon.mono fun e w' h' => ?_
  obtain ⟨rfl, n, os, rfl⟩ := h'
  have e1 : (fun x y => !(ltOf cf) y x) = fun x y : Cd => !ltC y x := by
    funext x y
    rw [lt_cf]
  simp only [e1]
  have hs := sorted_own (n := n) (os := os) h (sortC_len l)
  rw [sortC_len] at hs
  exact ⟨trivial, hs.1, hs.2⟩
end Go.Proofs.YtipigfgnpfhdbaaGreatDoor.G
namespace Go.Proofs.YtipigfgnpfhdbaaGreatDoor.G
open Go.RowKit U M
open Go.Maps (Keyed)
set_option linter.unusedVariables false

theorem OwnC.ne {w : World} {base B : Nat} {v : Value} {l : List Cd} (h : OwnC w base v l) (hB : B < base) : some B ≠ v.ownBlock := fun e => by
  have := (h.block e.symm).1
  omega
theorem RowsOk.kept {w w' : World} {base it : Nat} {G : List Gr} (h : RowsOk w base G) (hg : w.grownBy w' (some it)) (hne : ∀ x ∈ G, x.2.1 ≠ it) : RowsOk w' base G :=
  ⟨fun x hx => (h.1 x hx).kept hg fun g e k => by
    rw [hdr_block] at e
    cases e
    cases k
    exact hne x hx rfl, h.2⟩
theorem wfR {r : Int} (h : 0 ≤ r ∧ r ≤ 1114111) : (Lit.int .i32 r).wf = true := WalkArith.wf_i32 (by omega)
def BRel (D : List Cd) (w : World) (B0 n0 it : Nat) (wr : World) : Prop :=
  ∃ done cnt G, RangeIs Tryz.prog 30 wr B0 it n0 fc D done cnt ∧ Grouped done G ∧ MapIs Tryz.prog 21 wr w.heap.size done.length fg G ∧ RowsOk wr (w.heap.size + 2) G ∧ Bel w wr
/-- What back answers: a group for each character, its codes in order. -/
def Backed (D : List Cd) (G : List Gr) : Prop := (∀ x ∈ G, (∃ L : List Cd, L.Perm D ∧ x.2.2.2 = sortC (L.filter fun c => rn c == x.1)) ∧ x.2.2.2 ≠ []) ∧ ∀ c ∈ D, ∃ x ∈ G, x.1 = rn c
def BackPost (D : List Cd) (w : World) (e : Ending) (w' : World) : Prop :=
  e = .returned (.map (some w.heap.size)) ∧ ∃ n G, Backed D G ∧ MapIs Tryz.prog 21 w' w.heap.size n fg G ∧ RowsOk w' (w.heap.size + 2) G ∧ Bel w w'
def LRel (D : List Cd) (w : World) (n it2 : Nat) (G : List Gr) (wr : World) : Prop :=
  ∃ done cnt, RangeIs Tryz.prog 21 wr w.heap.size it2 n fg G done cnt ∧ (∀ x ∈ G, (x ∈ done → OwnC wr (w.heap.size + 2) (hdrV x) (sortC x.2.2.2)) ∧ (x ∉ done → OwnC wr (w.heap.size + 2) (hdrV x) x.2.2.2)) ∧ Bel w wr
def srt (x : Gr) : Gr := (x.1, x.2.1, x.2.2.1, sortC x.2.2.2)
theorem srt_fg (x : Gr) : fg (srt x) = fg x := by
  unfold fg srt rnV hdrV
  simp only
  rw [sortC_len]
theorem OwnC.below {w w' : World} {base : Nat} {v : Value} {l : List Cd} (h : OwnC w base v l) (hb : Below w.heap.size w w') : OwnC w' base v l := h.still ⟨hb.os, hb.tape, hb.output, hb.size, fun i hi _ => hb.block i hi⟩
theorem sorted_ne {l : List Cd} (h : l ≠ []) : sortC l ≠ [] := fun e => h (List.eq_nil_of_length_eq_zero (by rw [← sortC_len l, e]; rfl))
theorem backed_of {D done : List Cd} {G : List Gr} (hG : Grouped done G) (hp : done.Perm D) : Backed D (G.map srt) := by
  refine ⟨fun x hx => ?_, fun c hc => ?_⟩
  · obtain ⟨y, hy, rfl⟩ := List.mem_map.1 hx
    obtain ⟨h1, h2⟩ := hG.1 y hy
    refine ⟨⟨done, hp, ?_⟩, sorted_ne h2⟩
    show sortC y.2.2.2 = sortC (done.filter fun c => rn c == y.1)
    rw [← h1]
  · obtain ⟨x, hx, e⟩ := hG.2 c (hp.mem_iff.2 hc)
    exact ⟨srt x, List.mem_map.2 ⟨x, hx, rfl⟩, e⟩
set_option maxRecDepth 100000 in
set_option maxHeartbeats 4000000 in
theorem back_is (B0 n0 : Nat) (D : List Cd) (w : World) (hM : MapIs Tryz.prog 30 w B0 n0 fc D) (hfit : ∀ c ∈ D, 0 ≤ rn c ∧ rn c ≤ 1114111) (hlen : D.length ≤ 200000) : Calls Tryz.prog 18 #[.map (some B0)] w (BackPost D w) := by
  obtain ⟨i0, hi, hz0, hz1, hz2⟩ := info_parts infoC
  have hB0 := hM.lt
  have HF := Lib.hid hfit
  have hmm := @run_makeMap Tryz.prog
  have HMa := Lib.hid (hM.alloc (.map #[] 0))
  have HMn := Lib.hid (MapIs.made (P := Tryz.prog) (k := 21) w fg)
  obtain ⟨it, hit⟩ : ∃ it, (w.alloc (.map #[] 0)).heap.size = it := ⟨_, rfl⟩
  have hit2 : it = w.heap.size + 1 := by rw [← hit]; simp
  have HIt := Lib.hid hit2
  have HitE := Lib.hid hit
  clear hit2
  clear hfit hM
  go_enter Tryz.func18, Tryz.ntmps18
  go_wp2_with (first | (at_range; refine wpl_range (by rfl) _ 45 rfl lawC Tryz.underlying45 rfl HMa.out ?_; intro w0 cnt0 hrg0 hb0 hs0; rw [hit] at hrg0 ⊢) | fail)
  clear hit
  have hb0' : Bel (w.alloc (.map #[] 0)) w0 := hb0
  have HB0 := Lib.hid ((((Bel.refl w).alloc (.map #[] 0)).trans hb0' : Bel w w0))
  have HR0 := Lib.hid hrg0
  have HM0 := Lib.hid (HMn.out.below hb0)
  clear hrg0 hb0 hb0' HMa HMn
  go_frame
  go_loopw [4, 5] (fun _ _ wr => BRel D w B0 n0 it wr) (fun _ _ wr => wr.rangeLeft B0 it)
  case atStart => exact ⟨[], cnt0, [], HR0.out, Grouped.nil, HM0.out, ⟨fun x hx => (by cases hx), List.nodup_nil⟩, HB0.out⟩
  case round =>
    obtain ⟨done, cnt, G, hrg, hG, hm, hR, hB⟩ := hrel
    have HG := Lib.hid hG
    have HR := Lib.hid hR
    have HMx := Lib.hid hm
    have HB := Lib.hid hB
    have HRg := Lib.hid hrg
    clear hG hm hR hB
    go_wp2_with (first | (at_next; go_loud (refine wpl_next (by rfl) _ rfl lawC (fun c : Cd => .agg #[.int .i64 c.1, .int .i64 c.2]) (fun c : Cd => .int .i32 (rn c)) rfl hrg ?_ ?_)) | fail)
    · intro hall
      have hbk : ∀ x ∈ G, w.heap.size + 2 ≤ x.2.1 ∧ x.2.1 < wr.heap.size := fun x hx => (HR.out.1 x hx).block (hdr_block x)
      obtain ⟨it2, hit2⟩ : ∃ n, wr.heap.size = n := ⟨_, rfl⟩
      have HBk := Lib.hid hbk
      have HAll := Lib.hid hall
      have HI2 := Lib.hid hit2
      have hw2 : w.heap.size ≤ it2 := by rw [← hit2]; exact Below.size HB.out
      have HW2 := Lib.hid hw2
      clear hall hbk hrg hit2 hw2
      go_wp2_with (first | (at_range; refine wpl_range (by rfl) _ 43 rfl lawR Tryz.underlying43 rfl HMx.out ?_; intro w5 cnt5 hrg5 hb5 hs5; rw [HI2.out] at hrg5 ⊢) | fail)
      have HRg5 := Lib.hid hrg5
      have HO5 : Hid (∀ x ∈ G, OwnC w5 (w.heap.size + 2) (hdrV x) x.2.2.2) := Lib.hid fun x hx => (HR.out.1 x hx).below hb5
      have HB5 : Hid (Bel w w5) := Lib.hid (HB.out.trans hb5)
      clear hrg5 hb5 hs5
      go_frame
      go_loopw [7] (fun _ wr2 => LRel D w done.length it2 G wr2) (fun _ wr2 => wr2.rangeLeft w.heap.size it2)
      case atStart => exact ⟨[], cnt5, HRg5.out, fun x hx => ⟨fun h => (by cases h), fun _ => HO5.out x hx⟩, HB5.out⟩
      case round =>
        obtain ⟨done2, cnt2, hrg, hrows, hB2⟩ := hrel
        have HRg2 := Lib.hid hrg
        have HRw := Lib.hid hrows
        have HB2 := Lib.hid hB2
        clear hrows hB2
        go_wp2_with (first | (at_next; go_loud (refine wpl_next (by rfl) _ rfl lawR rnV hdrV rfl hrg ?_ ?_)) | fail)
        · intro hall2
          have HAll2 := Lib.hid hall2
          clear hall2 hrg
          go_wp2
          go_ret
          have hmap := HRg2.out.map
          have hfg : ∀ x ∈ G, fg (srt x) = fg x := fun x _ => srt_fg x
          refine ⟨rfl, done.length, G.map srt, backed_of HG.out ?_, hmap.turn ?_ ?_, ⟨?_, ?_⟩, HB2.out⟩
          · have h1 := HRg.out.part
            exact (List.perm_ext_iff_of_nodup h1.1 h1.2.2).2 fun c => ⟨fun h => h1.2.1 c h, fun h => HAll.out c.1 c.2 h⟩
          · rw [List.map_map]
            have : (fun x : Gr => (fg x).1) ∘ srt = fun x => (fg x).1 := by
              funext x
              show (fg (srt x)).1 = (fg x).1
              rw [srt_fg]
            rw [this]
            exact HMx.out.nodup
          · intro c
            constructor
            · rintro ⟨x, hx, rfl⟩
              obtain ⟨y, hy, rfl⟩ := List.mem_map.1 hx
              exact ⟨y, hy, (srt_fg y).symm⟩
            · rintro ⟨y, hy, rfl⟩
              exact ⟨srt y, List.mem_map.2 ⟨y, hy, rfl⟩, srt_fg y⟩
          · intro x hx
            obtain ⟨y, hy, rfl⟩ := List.mem_map.1 hx
            have h1 := (HRw.out y hy).1 (HAll2.out y.1 y.2.1 y.2.2.1 y.2.2.2 hy)
            have e : hdrV (srt y) = hdrV y := congrArg Prod.snd (srt_fg y)
            rw [e]
            exact h1
          · rw [List.map_map]
            exact HR.out.2
        · intro r g cap codes w6 cnt6 hx hnx hrg6 hlt6 hg6 hs6 hen6
          have hgb := HBk.out _ hx
          rw [HI2.out] at hgb
          have own0 := (HRw.out _ hx).2 hnx
          have own6 : OwnC w6 (w.heap.size + 2) (.slice (some ⟨g, 0, none⟩) codes.length cap) codes := own0.kept hg6 fun k e1 e2 => by
            rw [hdr_block] at e1
            have h1 := Option.some.inj e1
            have h2 := Option.some.inj e2
            have h3 := hgb.2
            simp only at h1 h3
            omega
          have hcl : codes.length ≤ 200000 := by
            have h0 := HG.out.len hx
            have h1 := HRg.out.part
            have h2 := List.Nodup.length_le_of_subset h1.1 (fun x hx => h1.2.1 x hx)
            simp only at h0
            omega
          have hcon := sort_is own6 (by omega)
          obtain ⟨ln, hln⟩ : ∃ n, codes.length = n := ⟨_, rfl⟩
          rw [hln] at hcon
          have e : hdrV (r, g, cap, codes) = .slice (some ⟨g, 0, none⟩) ln cap := by rw [← hln]; rfl
          have HE := Lib.hid e
          have HLn := Lib.hid hln
          have HX := Lib.hid hx
          have HNx := Lib.hid hnx
          have HGb := Lib.hid hgb
          have HG6 := Lib.hid hg6
          have HRg6 := Lib.hid hrg6
          have HLt6 := Lib.hid hlt6
          rw [e] at hen6 ⊢
          clear own0 own6 hcl hln e hx hnx hgb hg6 hrg6 hlt6 hs6 hrg
          go_wp2_with (go_at_call 32; refine hcon.mono ?_; rintro e7 w7 ⟨rfl, hown7, hg7⟩)
          have hb : w.heap.size + 2 ≤ g ∧ g < it2 := HGb.out
          have hRg7 := HRg6.out.kept hg7 (fun e => by have := Option.some.inj e; omega) (fun e => by have := Option.some.inj e; omega)
          go_roundw
          case rel =>
            refine ⟨done2 ++ [(r, g, cap, codes)], cnt6, hRg7, fun y hy => ?_, ?_⟩
            · by_cases ey : y = (r, g, cap, codes)
              · subst ey
                refine ⟨fun _ => ?_, fun h => absurd (List.mem_append_right _ (List.mem_singleton.2 rfl)) h⟩
                rw [HE.out]
                exact hown7
              · have hne : y.2.1 ≠ g := fun e => ey (block_inj HR.out.2 hy HX.out e)
                have hkeep : ∀ l : List Cd, OwnC wr (w.heap.size + 2) (hdrV y) l → OwnC w7 (w.heap.size + 2) (hdrV y) l := fun l h => (h.kept HG6.out fun k e1 e2 => by
                  rw [hdr_block] at e1
                  have h1 := Option.some.inj e1
                  have h2 := Option.some.inj e2
                  have h3 := (HBk.out y hy).2
                  have h4 := HI2.out
                  omega).kept hg7 fun k e1 e2 => by
                  rw [hdr_block] at e1
                  have h1 := Option.some.inj e1
                  have h2 := Option.some.inj e2
                  omega
                refine ⟨fun h => hkeep _ ((HRw.out y hy).1 ?_), fun h => hkeep _ ((HRw.out y hy).2 fun k => h (List.mem_append_left _ k))⟩
                rcases List.mem_append.1 h with h | h
                · exact h
                · exact absurd (List.mem_singleton.1 h) ey
            · have hb6 : Bel w w6 := Below.grown HB2.out HG6.out (Below.size HB2.out) (fun k hk => by have := Option.some.inj hk; have := HW2.out; omega)
              exact Below.grown hb6 hg7 (Below.size hb6) (fun k hk => by have := Option.some.inj hk; omega)
          case measure =>
            rw [hRg7.left_eq, HRg2.out.left_eq]
            exact HLt6.out
    · intro s m w1 cnt1 hx hnx hrg1 hlt hg1 hs1 hen
      have HLt := Lib.hid hlt
      obtain ⟨r, hr⟩ : ∃ r, rn (s, m) = r := ⟨_, rfl⟩
      have hfx := HF.out (s, m) hx
      simp only [hr] at hen hfx ⊢
      have hkey := Maps.keyOf_int_mk Tryz.underlying21 (wfR hfx)
      have HM1 := Lib.hid (HMx.out.kept hg1 (fun e => by have := Option.some.inj e; have := HIt.out; omega))
      have HR1 := Lib.hid (HR.out.low (by have := HIt.out; omega) hg1)
      have HRg1 := Lib.hid hrg1
      clear hrg1 hrg hs1 hlt
      obtain ⟨d, hd⟩ : ∃ d, w1.alloc (.cells #[.int .i64 s, .int .i64 m] 30) = d := ⟨_, rfl⟩
      have q0 : d.cell? ⟨w1.heap.size, 0, none⟩ = some (.int .i64 s) := by rw [← hd]; simp [go_sem]
      have q1 : d.cell? ⟨w1.heap.size, 1, none⟩ = some (.int .i64 m) := by rw [← hd]; simp [go_sem]
      have HMd := Lib.hid (HM1.out.alloc (.cells #[.int .i64 s, .int .i64 m] 30))
      have HRd := Lib.hid ((HR1.out.alloc (.cells #[.int .i64 s, .int .i64 m] 30)).alloc (.cells #[.int .i64 s, .int .i64 m] 30))
      have HRgd := Lib.hid (HRg1.out.alloc (.cells #[.int .i64 s, .int .i64 m] 30))
      rw [hd] at HMd HRd HRgd
      have hn := HMx.out.nodup
      have hdl : done.length ≤ 200000 := by
        have h1 := HRg.out.part
        have h2 := List.Nodup.length_le_of_subset h1.1 (fun x hx => h1.2.1 x hx)
        omega
      have hb1 : Bel w d := by
        rw [← hd]
        have hb0 : Bel w w1 := Below.grown HB.out hg1 (Below.size HB.out) (by intro k hk; cases hk; have := HIt.out; omega)
        exact hb0.alloc _
      have HK3 : Hid (w.heap.size + 2 ≤ (d.alloc (.cells #[.int .i64 s, .int .i64 m] 30)).heap.size) := by
        have h1 := HRg1.out.lt
        have h2 := HIt.out
        refine Lib.hid ?_
        rw [← hd]
        simp
        omega
      have HBd := Lib.hid hb1
      have HNd := Lib.hid hn
      have HDl := Lib.hid hdl
      clear hb1 hg1 hn hdl
      go_wp2_with (first
        | (at_lookup; refine wpl_get (by rfl) _ _ 43 rfl lawR Tryz.underlying43 (zeroSl _) rfl HMd.out rfl hkey ?_; intro v hv
           obtain ⟨l, hol, hll, hstep⟩ := rows_step (c := (s, m)) HRd.out HG.out HNd.out (by rw [hr]; exact hv)
           have k1 : l.length + 1 ≤ maxLen := by unfold maxLen; have := HDl.out; omega
           have k2 : (l.length + 1) * 16 ≤ 140737488355328 := by have := HDl.out; omega
           have hne1 := hol.ne (B := w.heap.size) (by omega)
           have hne2 := hol.ne (B := B0) (by omega)
           have hne3 := hol.ne (B := it) (by have := HIt.out; omega))
        | (at_builtin; go_loud (refine wpList_append_own_at _ rfl _ _ 25 rfl (w.heap.size + 2) 30 i0 (.agg #[.int .i64 0, .int .i64 0]) 2 16 Tryz.underlying25 hi hz0 hz1 hz2 rfl (by decide) v l.length (l.flatMap encC) rfl hol ⟨d.heap.size, 0, none⟩ 1 1 (encC (s, m)) rfl rfl (two_new d (s, m)) (encC_cell (s, m)) k1 k2 HK3.out ?_); intro v' w3 hown' hgr hnil hloc
           obtain ⟨G', g1, g2, g3, g4⟩ := hstep v' w3 hown' hgr hloc
           rw [hr] at g3
           have hM3 := (HMd.out.alloc (.cells #[.int .i64 s, .int .i64 m] 30)).kept hgr hne1
           have hRg3 := (HRgd.out.alloc (.cells #[.int .i64 s, .int .i64 m] 30)).kept hgr hne2 hne3
           have hB3 : Bel w w3 := Below.grown (HBd.out.alloc (.cells #[.int .i64 s, .int .i64 m] 30)) hgr (by have := HK3.out; omega) (fun k hk => by have := (hol.block hk).1; omega))
        | (at_mapUpdate; refine wpl_put (by rfl) _ _ _ 43 rfl lawR Tryz.underlying43 G' rfl hM3 (by unfold maxLen; have := HDl.out; omega) rfl rfl hkey g2 g3 ?_; intro w4 hm4 hg4; go_frame)
        | fail)
      have hRg4 := hRg3.kept hg4 (fun e => by have := Option.some.inj e; omega) (fun e => by have := Option.some.inj e; have := HIt.out; omega)
      go_roundw
      case rel =>
        refine ⟨done ++ [(s, m)], cnt1, G', hRg4, g1, ?_, g4.low (by omega) hg4, Below.grown hB3 hg4 (Below.size hB3) (fun k hk => by have := Option.some.inj hk; omega)⟩
        rw [List.length_append]
        exact hm4
      case measure =>
        rw [hRg4.left_eq, HRg.out.left_eq]
        exact HLt.out
end Go.Proofs.YtipigfgnpfhdbaaGreatDoor.G
namespace Go.Proofs.YtipigfgnpfhdbaaGreatDoor.G
open Go.RowKit Go.Shelf U M
open Go.Maps (Keyed)
set_option linter.unusedVariables false
attribute [local go_sem] Oper.semAt_some

section
variable {α : Type} {F : Fence} {n : Nat} {P : Program} {w : World} {ops : Array Oper} {rest : List Oper} {o : Oper} {a : Act} {Q : Exit → Act → World → Prop}
theorem wpli_range (hg : o.guard = none) (m : Operand) (t : TypeId) (hop : o.op = Op.range t m) {k e : TypeId} (K : Keyed P k) (ht : P.underlying t = some (.map k e)) {b nn : Nat} {f : α → Value × Value} {L : List α}
    (hm : a.eval m = .map (some b)) (h : MapIs P k w b nn f L)
    (hK : ∀ w' cnt, RangeIs P k w' b w.heap.size nn f L [] cnt → w.grownBy w' none → w'.heap.size = w.heap.size + 1 → wpListIn F n P ops Q rest (a.put o.dst (.pointer (some ⟨w.heap.size, 0, none⟩))) w') : wpListIn F n P ops Q (o :: rest) a w := by
  obtain ⟨D, hown, hH⟩ := h
  exact wpListIn_range_own w hg m t hop k e K ht vR b nn D hm hown fun w' h1 h2 h3 =>
    hK w' _ ⟨D, _, h1, hH, List.nodup_nil, by simp, fun x hx kl hk => by
      obtain ⟨kl2, hk2, hat⟩ := hH.2.1 x hx
      rw [hk] at hk2
      cases hk2
      simp [has_of hat]⟩ h2 h3
theorem wpli_next (hg : o.guard = none) (it : Operand) (hop : o.op = Op.next it false) {k : TypeId} (K : Keyed P k) {b r nn : Nat} (fk fv : α → Value) {L done : List α} {cnt : Nat}
    (hit : a.eval it = .pointer (some ⟨r, 0, none⟩)) (h : RangeIs P k w b r nn (fun x => (fk x, fv x)) L done cnt)
    (hDone : (∀ x ∈ L, x ∈ done) → wpListIn F n P ops Q rest (a.put o.dst (.tuple #[.bool false])) w)
    (hMore : ∀ x w' cnt', x ∈ L → x ∉ done → RangeIs P k w' b r nn (fun x => (fk x, fv x)) L (done ++ [x]) cnt' → cnt' < cnt → w.grownBy w' (some r) → w'.heap.size = w.heap.size →
      (Instr.entry (.pointer (some ⟨r, 0, none⟩))).run P w' = .ok (.tuple #[fk x, fv x]) w' → wpListIn F n P ops Q rest (a.put o.dst (.tuple #[.bool true, fk x, fv x])) w') : wpListIn F n P ops Q (o :: rest) a w := by
  refine wpListIn_plain hg fun K' hK' => ?_
  unfold Oper.wpIn
  refine ⟨by simp [Oper.about, hop], ?_⟩
  rw [Oper.semAt_plain F _ _ (by rw [hop]; intro c hc'; cases hc')]
  rcases h.next K o.type with ⟨hd, hrun⟩ | ⟨x, w', cnt', h1, h2, h3, h4, h5, h6, hrun, hen⟩
  · simp [execOp, hop, hit, hrun, Result.andThen]
    exact hK' _ _ (hDone hd)
  · simp [execOp, hop, hit, hrun, Result.andThen]
    exact hK' _ _ (hMore x w' cnt' h1 h2 h3 h4 h5 h6 hen)
theorem range_walks {k : TypeId} {w' : World} {b r nn : Nat} {f : α → Value × Value} {L done : List α} {cnt : Nat} (h : RangeIs P k w b r nn f L done cnt) (hk : KeepsWalks w w') : RangeIs P k w' b r nn f L done cnt := by
  obtain ⟨D, left, h, rest⟩ := h
  exact ⟨D, left, h.of_walks hk, rest⟩
theorem range_walk {k : TypeId} {b r nn : Nat} {f : α → Value × Value} {L done : List α} {cnt : Nat} (h : RangeIs P k w b r nn f L done cnt) : ∃ o : Obj, w.heap[r]? = some o ∧ o.isWalk = true := by
  obtain ⟨D, left, h, rest⟩ := h
  exact h.iter_walk
end

/-- What an iterator that changes nothing but its own objects tells, in an order that is not known ahead. -/
def SeqW {α : Type} (P : Program) (encs : α → Array Value) (Ok : List α → α → Prop) (Fin : List α → Prop) (gf : Nat) (pb lb : Array Value) (Z : World → Prop) : Prop :=
  ∀ (l base : Nat) (J : List α → World → Prop),
    (∀ pre W W' row, J pre W → W.grownBy W' row → (∀ r, row = some r → base ≤ r ∧ ∃ o : Obj, W.heap[r]? = some o ∧ o.isWalk = true) → J pre W') →
    (∀ pre x W, J pre W → Ok pre x → YieldAt Fence.wide 0 P l (encs x) W fun e W' => e = .returned (.bool true) ∧ J (pre ++ [x]) W' ∧ KeepsWalks W W') →
    ∀ W, base ≤ W.heap.size → Z W → J [] W → Calls P gf (pb ++ #[.func (.yield l) #[] #[]] ++ lb) W fun e W' => (∃ v, e = .returned v) ∧ ∃ tb, Fin tb ∧ J tb W'

def endsW {α : Type} (I : List α → World → Prop) (pre : List α) (W : World) : Exit → Act → World → Prop
  | .normal, _, W' => KeepsOthers W W' ∧ I pre W'
  | _, _, _ => False
theorem others_walks {W W' : World} (h : KeepsOthers W W') : KeepsWalks W W' := ⟨h.size, fun j o hj hw => h.same j o hj (by cases o <;> first | rfl | cases hw)⟩
section
variable {α : Type} (encs : α → Array Value) {Ok : List α → α → Prop} {Fin : List α → Prop} {P : Program} {m gf : Nat} {g : Operand} {ps : Array Tmp} {assign body : Code} {Q : Exit → Act → World → Prop} {a : Act} {Wz : World} {pb lb : Array Value} {Z : World → Prop}
theorem range_w (h1 : 1 ≤ m) (hg : a.eval g = .func (.func gf) pb lb) (eg : ∀ args w, (callFunc gf args).run P w = .ok (.enter gf args) w) (hps : ∀ x, (encs x).size = ps.size)
    (hseq : SeqW P encs Ok Fin gf pb lb Z) (I : List α → World → Prop)
    (hI : ∀ pre W W' row, I pre W → W.grownBy W' row → (∀ r, row = some r → Wz.heap.size ≤ r ∧ ∃ o : Obj, W.heap[r]? = some o ∧ o.isWalk = true) → I pre W')
    (hIp : ∀ pre W o L, I pre W → W.heap[Wz.heap.size + 1]? = some (.loop L) → I pre (W.putObj (Wz.heap.size + 1) o))
    (hZ : ∀ W, Bel Wz W → Z W) (h0 : I [] Wz) (a₁ : α → Act)
    (hassign : ∀ (l : Nat) (x : α) (W : World) (K : Act → World → Prop), K (a₁ x) W →
      assign.wpIn (Fence.wide.inRound l) (m - 1 - 1) P (Exit.then K (fun _ _ _ => False)) { tmps := (ps.zip (encs x)).foldl (fun t (p, v) => t.setIfInBounds p v) a.tmps, defers := [] } W)
    (hbody : ∀ (l : Nat) (pre : List α) (x : α) (W : World), I pre W → Ok pre x → body.wpIn (Fence.wide.inRound l) (m - 1 - 1) P (endsW I (pre ++ [x]) W) (a₁ x) W)
    (hdone : ∀ tb W, Fin tb → I tb W → W.heap[Wz.heap.size]? = some (.deferred (some [])) → Q .normal { a with defers := { target := .collected Wz.heap.size, args := #[] } :: a.defers } W) :
    (Code.rangeFunc g ps assign body).wpIn Fence.wide m P Q a Wz := by
  refine wpIn_rangeFunc fun fn _ => ?_
  let rc : LoopState → Option Code → Loop := fun st pe => { state := st, pending := pe, fn, tmps := a.tmps, params := ps, assign, body, defers := Wz.heap.size }
  let W1 : World := (Wz.alloc (.deferred (some []))).alloc (.loop (rc .ready none))
  have hsz : (Wz.alloc (.deferred (some []))).heap.size = Wz.heap.size + 1 := World.size_alloc _ _
  have hB1 : Bel Wz W1 := ((Bel.refl Wz).alloc _).alloc _
  have hl1 : W1.heap[Wz.heap.size + 1]? = some (.loop (rc .ready none)) := by
    have h := World.alloc_heap_new (Wz.alloc (.deferred (some []))) (.loop (rc .ready none))
    rwa [hsz] at h
  have hd1 : W1.heap[Wz.heap.size]? = some (.deferred (some [])) :=
    (Below.block ((Bel.refl (Wz.alloc (.deferred (some [])))).alloc (.loop (rc .ready none))) _ (by rw [hsz]; omega)).trans (World.alloc_heap_new Wz _)
  have put_d : ∀ (W : World) (o : Obj), W.heap[Wz.heap.size]? = some (.deferred (some [])) → (W.putObj (Wz.heap.size + 1) o).heap[Wz.heap.size]? = some (.deferred (some [])) := fun W o h => (World.putObj_heap_other (by omega)).trans h
  have hI1 : I [] W1 := hI _ _ _ none (hI _ _ _ none h0 (World.grownBy_alloc _ _ none) (fun r e => by cases e)) (World.grownBy_alloc _ _ none) (fun r e => by cases e)
  have keep : ∀ (W W' : World) (row : Option Nat) (j : Nat) (o : Obj), W.grownBy W' row → (∀ r, row = some r → Wz.heap.size ≤ r ∧ ∃ o : Obj, W.heap[r]? = some o ∧ o.isWalk = true) → W.heap[j]? = some o → o.isWalk = false → W'.heap[j]? = some o := fun W W' row j o hg hr hj hw => (grownBy_keeps hg (fun r e => (hr r e).2) hj hw).trans hj
  refine ⟨Wz.heap.size + 1, [{ target := .collected Wz.heap.size, args := #[] }], W1, { target := .fn (.func gf) lb, args := pb ++ #[.func (.yield (Wz.heap.size + 1)) #[] #[]] }, W1, gf, pb ++ #[.func (.yield (Wz.heap.size + 1)) #[] #[]] ++ lb, W1, ?_, ?_, fun _ _ => trivial, ?_, fun _ => h1, ?_⟩
  · exact run_enterLoop_outer fn a.tmps ps assign body
  · simp only [resolve, hg]
    simp [go_sem]
  · simp [invoke, go_sem, eg]
  refine (callsIn_wide.2 (hseq (Wz.heap.size + 1) Wz.heap.size (fun pre W => I pre W ∧ W.heap[Wz.heap.size + 1]? = some (.loop (rc .ready none)) ∧ W.heap[Wz.heap.size]? = some (.deferred (some [])))
    (fun pre W W' row h hg hr => ⟨hI _ _ _ row h.1 hg hr, keep _ _ _ _ _ hg hr h.2.1 rfl, keep _ _ _ _ _ hg hr h.2.2 rfl⟩)
    ?_ W1 (Below.size hB1) (hZ _ hB1) ⟨hI1, hl1, hd1⟩)).mono ?_
  · rintro pre x W ⟨hi, hl, hd⟩ hx
    have hlt : Wz.heap.size + 1 < W.heap.size := (Array.getElem?_eq_some_iff.1 hl).1
    refine ⟨fn, _, assign, body, run_yield hl (hps x), roundIn_any (m := m - 1 - 1) (roundIn_of_wpIn trivial (hassign _ x W _ ⟨_, run_beginRound hl rfl, ?_⟩))⟩
    have hl2 : (W.putObj (Wz.heap.size + 1) (.loop { rc .ready none with state := .busy })).heap[Wz.heap.size + 1]? = some (.loop { rc .ready none with state := .busy }) := World.putObj_heap_same hlt
    have hd2 := put_d W (.loop { rc .ready none with state := .busy }) hd
    have hk2 : KeepsWalks W (W.putObj (Wz.heap.size + 1) (.loop { rc .ready none with state := .busy })) := KeepsWalks.putObj _ hl rfl
    refine wpIn_mono (hbody _ pre x _ (hIp _ _ _ _ hi hl) hx) ?_
    rintro e a3 W3 hp
    cases e with
    | normal =>
      obtain ⟨hk, hi3⟩ := hp
      have hl3 := hk.same _ _ hl2 rfl
      have hd3 := hk.same _ _ hd2 rfl
      have hlt3 : Wz.heap.size + 1 < W3.heap.size := (Array.getElem?_eq_some_iff.1 hl3).1
      exact ⟨_, _, run_endRound none hl3, rfl, ⟨hIp _ _ _ _ hi3 hl3, World.putObj_heap_same hlt3, put_d _ _ hd3⟩, (hk2.trans (others_walks hk)).trans (KeepsWalks.putObj _ hl3 rfl)⟩
    | ret => exact hp.elim
    | exit id => exact hp.elim
    | goto t => exact hp.elim
    | panic ch => exact hp.elim
    | outgrown => exact hp.elim
  · rintro e W2 ⟨⟨v, rfl⟩, tb, hf, hi, hl, hd⟩
    exact ⟨none, _, run_endLoop hl (by simp [rc]), hdone tb _ hf (hIp _ _ _ _ hi hl) (put_d _ _ hd)⟩
end
/-- What maps.Keys' function is handed. -/
def KeyZ (B n Bm : Nat) (G : List Gr) (W : World) : Prop := MapIs Tryz.prog 21 W B n fg G ∧ Boxed W Bm 43 (.map (some B))
theorem KeyZ.bel {B n Bm : Nat} {G : List Gr} {W W' : World} (h : KeyZ B n Bm G W) (hb : Bel W W') : KeyZ B n Bm G W' := ⟨h.1.below hb, boxed_bel h.2 hb⟩
def KRel (B n it : Nat) (G : List Gr) (J : List Gr → World → Prop) (wr : World) : Prop := ∃ done cnt, RangeIs Tryz.prog 21 wr B it n fg G done cnt ∧ J done wr
set_option maxRecDepth 100000 in
set_option maxHeartbeats 2000000 in
theorem keys_seq (B n Bm : Nat) (G : List Gr) : SeqW Tryz.prog (fun x : Gr => #[.int .i32 x.1]) (fun pre x => x ∈ G ∧ x ∉ pre ∧ pre.Nodup ∧ ∀ y ∈ pre, y ∈ G) (fun tb => tb.Perm G) 31 #[] #[.pointer (some ⟨Bm, 0, none⟩)] (KeyZ B n Bm G) := by
  intro l0 base J hJ hY W hbs hZ h0
  have HBs := Lib.hid hbs
  have HJ := Lib.hid hJ
  have HY := Lib.hid hY
  have H0 := Lib.hid h0
  have HM := Lib.hid hZ.1
  have hc := hZ.2.cell
  clear hJ hY h0 hZ hbs
  refine (callsIn_wide (n := 4)).1 ?_
  refine callsIn_of_wp Tryz.func31 rfl trivial ?_ rfl
  simp only [Tryz.ntmps31, List.size_toArray, List.length_cons, List.length_nil, Nat.reduceAdd, Nat.reduceSub, Array.replicate_succ, Array.replicate_zero, List.push_toArray, List.append_toArray, List.nil_append, List.cons_append]
  gi_wp2_with (first | (gi_at_range; refine wpli_range rfl _ 43 rfl lawR Tryz.underlying43 rfl HM.out ?_; intro w0 cnt0 hrg0 hg0 hs0) | fail)
  obtain ⟨it, hit⟩ : ∃ it, W.heap.size = it := ⟨_, rfl⟩
  rw [hit] at hrg0 ⊢
  have HIt := Lib.hid (show base ≤ it by rw [← hit]; exact HBs.out)
  have HR0 := Lib.hid hrg0
  have HJ0 := Lib.hid (HJ.out [] W w0 none H0.out hg0 (fun r e => by cases e))
  clear hrg0 hg0 hs0 hit hc
  (try go_frame)
  gi_loopw [3] (fun _ wr => KRel B n it G J wr) (fun _ wr => wr.rangeLeft B it)
  case atStart => exact ⟨[], cnt0, HR0.out, HJ0.out⟩
  case round =>
    obtain ⟨done, cnt, hrg, hj⟩ := hrel
    have HRg := Lib.hid hrg
    have HJd := Lib.hid hj
    clear hj
    gi_wp2_with (first | (gi_at_next; refine wpli_next rfl _ rfl lawR (fun x : Gr => .int .i32 x.1) hdrV rfl hrg ?_ ?_) | fail)
    · intro hall
      have HAll := Lib.hid hall
      clear hall hrg
      gi_wp2_with fail
      go_end0
      refine ⟨⟨_, rfl⟩, done, ?_, HJd.out⟩
      have h1 := HRg.out.part
      exact (List.perm_ext_iff_of_nodup h1.1 h1.2.2).2 fun c => ⟨fun h => h1.2.1 c h, fun h => HAll.out c.1 c.2.1 c.2.2.1 c.2.2.2 h⟩
    · intro r g cap codes w2 cnt2 hx hnd hrg2 hlt hg2 hs2 hen
      obtain ⟨x, hxe⟩ : ∃ x : Gr, (r, g, cap, codes) = x := ⟨_, rfl⟩
      rw [hxe] at hx hnd hrg2
      obtain rfl : r = x.1 := by rw [← hxe]
      have h1 := HRg.out.part
      have hJ2 : J done w2 := HJ.out done wr w2 (some it) HJd.out hg2 (fun r e => by cases e; exact ⟨HIt.out, range_walk HRg.out⟩)
      obtain ⟨fn, tmps, assign, body, hy, hR⟩ := HY.out done x w2 hJ2 ⟨hx, hnd, h1.1, h1.2.1⟩
      have HR := Lib.hid hR
      have HRg2 := Lib.hid hrg2
      have HLt := Lib.hid hlt
      clear hs2 hx hnd hrg hrg2 hlt hg2 h1 hJ2 hR hxe
      gi_wp2_with fail
      refine (roundIn_any HR.out).mono ?_
      rintro e W3 ⟨rfl, hJ3, hk3⟩
      have hrg3 := range_walks HRg2.out hk3
      have HR3 := Lib.hid hrg3
      have HJ3 := Lib.hid hJ3
      clear hrg3 hJ3 hk3 hy hen
      gi_wp2_with fail
      go_roundw
      case rel => exact ⟨done ++ [x], cnt2, HR3.out, HJ3.out⟩
      case measure => rw [HR3.out.left_eq, HRg.out.left_eq]; exact HLt.out
theorem keys_make (B : Nat) (w : World) : Calls Tryz.prog 17 #[.map (some B)] w fun e w' =>
    e = .returned (.func (.func 31) #[] #[.pointer (some ⟨w.heap.size, 0, none⟩)]) ∧ w' = w.alloc (.cells #[.map (some B)] 43) := by
  have hmf : ∀ (f : Nat) (args : Array Value) (w : World), (Instr.makeFunc (.func f) #[] args).run Tryz.prog w = .ok (.func (.func f) #[] args) w := fun f args w => rfl
  go_enter Tryz.func17, Tryz.ntmps17
  go_wp2
  go_ret
  exact ⟨rfl, rfl⟩

/-- The list so far. -/
def CollI (w : World) (l : List Int) (W : World) : Prop := (∃ v, Boxed W w.heap.size 22 v ∧ W.ownsRow w.heap.size 21 1 v l.length (l.map (Value.int .i32))) ∧ Bel w W
theorem row_walks {W W' : World} {base k : Nat} {e : TypeId} {v : Value} {xs : List Value} {row : Option Nat} (h : W.ownsRow base e 1 v k xs) (hg : W.grownBy W' row) (hr : ∀ r, row = some r → ∃ o : Obj, W.heap[r]? = some o ∧ o.isWalk = true) : W'.ownsRow base e 1 v k xs := by
  refine h.kept hg ?_
  rcases h.2 with ⟨rfl, _⟩ | ⟨g, cap, cur, rfl, hbg, hgb, _⟩
  · exact .inl rfl
  · refine .inr fun e => ?_
    obtain ⟨o, ho, hw⟩ := hr g e.symm
    rw [hgb] at ho
    cases ho
    cases hw
theorem CollI.walks {w W W' : World} {l : List Int} {row : Option Nat} {b : Nat} (h : CollI w l W) (hg : W.grownBy W' row) (hw : w.heap.size ≤ b) (hr : ∀ r, row = some r → b ≤ r ∧ ∃ o : Obj, W.heap[r]? = some o ∧ o.isWalk = true) : CollI w l W' := by
  obtain ⟨⟨v, h2, h3⟩, h4⟩ := h
  exact ⟨⟨v, (grownBy_keeps hg (fun r e => (hr r e).2) h2 rfl).trans h2, row_walks h3 hg fun r e => (hr r e).2⟩, Below.grown h4 hg (Below.size h4) (fun j hj => by have := (hr j hj).1; omega)⟩
theorem CollI.put {w W : World} {l : List Int} (h : CollI w l W) {L : Nat} {x : Obj} (o : Obj) (hl : W.heap[L]? = some x) (hx : x.isCells = false) (hw : w.heap.size ≤ L) : CollI w l (W.putObj L o) := by
  obtain ⟨⟨v, h2, h3⟩, h4⟩ := h
  have n2 : w.heap.size ≠ L := fun e => by rw [← e, show W.heap[w.heap.size]? = _ from h2] at hl; cases hl; cases hx
  exact ⟨⟨v, E.boxed_put h2 n2 o, ownsRow_putObj h3 o hl hx⟩, E.bel_put h4 hw o⟩
theorem infoR : (Tryz.prog.info? 21).map (fun i => (i.zero, i.size, i.bytes)) = some (some (.int .i32 0), 1, 4) := by kernel_rfl
def CollPost (Fin : List Gr → Prop) (w : World) (e : Ending) (w' : World) : Prop := ∃ v tb, e = .returned v ∧ Fin tb ∧ w'.ownsRow w.heap.size 21 1 v tb.length ((tb.map (·.1)).map (Value.int .i32)) ∧ Bel w w'
set_option maxRecDepth 100000 in
set_option maxHeartbeats 2000000 in
theorem append_is {Ok : List Gr → Gr → Prop} {Fin : List Gr → Prop} {gf : Nat} {lb : Array Value} {Z : World → Prop} (w : World) (eg : ∀ args w, (callFunc gf args).run Tryz.prog w = .ok (.enter gf args) w)
    (hseq : SeqW Tryz.prog (fun x : Gr => #[.int .i32 x.1]) Ok Fin gf #[] lb Z) (hZ : ∀ W, Bel w W → Z W) (hlen : ∀ pre x, Ok pre x → pre.length ≤ 200000) :
    Calls Tryz.prog 49 #[.slice none 0 0, .func (.func gf) #[] lb] w (CollPost Fin w) := by
  have HZ := Lib.hid hZ
  have HLen := Lib.hid hlen
  have HSeq := Lib.hid hseq
  have HEg := Lib.hid eg
  clear hZ hlen hseq eg
  refine (callsIn_wide (n := 4)).1 ?_
  refine callsIn_of_wp_marks Tryz.func49 rfl trivial ?_ rfl
  simp only [Tryz.ntmps49, List.size_toArray, List.length_cons, List.length_nil, Nat.reduceAdd, Nat.reduceSub, Array.replicate_succ, Array.replicate_zero, List.push_toArray, List.append_toArray, List.nil_append, List.cons_append]
  gi_wp2_with fail
  have b1 : Boxed (w.alloc (.cells #[.slice none 0 0] 22)) w.heap.size 22 (.slice none 0 0) := Boxed.new w _ _
  have HC := Lib.hid (⟨⟨_, b1, World.ownsRow_nil _ _ _ _⟩, (Bel.refl w).alloc _⟩ : CollI w [] (w.alloc (.cells #[.slice none 0 0] 22)))
  have HB0 := Lib.hid (show Bel w (w.alloc (.cells #[.slice none 0 0] 22)) from (Bel.refl w).alloc _)
  have hz1 : (w.alloc (.cells #[.slice none 0 0] 22)).heap.size = w.heap.size + 1 := by simp
  generalize w.alloc (.cells #[.slice none 0 0] 22) = Wz at HC HB0 hz1 ⊢
  have HS := Lib.hid hz1
  clear b1 hz1
  refine range_w (fun x : Gr => #[.int .i32 x.1]) (by decide) rfl HEg.out (fun _ => rfl) HSeq.out (fun (pre : List Gr) W => CollI w (pre.map (fun x : Gr => x.1)) W)
    (fun pre W W' row h hg hr => h.walks hg (by have := HS.out; omega) hr) (fun pre X o L h hl => h.put o hl rfl (by have := HS.out; omega)) (fun W hb => HZ.out _ (HB0.out.trans hb)) HC.out
    (fun x => { tmps := #[.slice none 0 0, .func (.func gf) #[] lb, .pointer (some ⟨w.heap.size, 0, none⟩), undef, .slice none 0 0, .int .i32 x.1, .func (.func gf) #[] lb, .int .i32 x.1, undef, undef, undef, undef, undef], defers := [] }) ?assign ?body ?done
  case assign =>
    intro l x X K hK
    gi_wp2
    exact hK
  case body =>
    rintro l pre x X ⟨⟨v, hv, hrow⟩, hB⟩ hx
    have hlen2 : (pre.map (·.1)).length ≤ 200000 := by rw [List.length_map]; exact HLen.out pre x hx
    have hc2 := hv.cell
    obtain ⟨i0, hi, hz0, hz1, hz2⟩ := info_parts infoR
    clear hx
    gi_wp2_with (gi_at_builtin; refine wpListIn_append_own _ rfl _ _ 22 rfl w.heap.size 21 i0 (.int .i32 0) 1 4 Tryz.underlying22 hi hz0 hz1 hz2 rfl (by decide) _ _ _ rfl (hrow.alloc _) ⟨X.heap.size, 0, none⟩ 1 1 [.int .i32 x.1] rfl rfl (cell_one_new _ _ _) (by simp [Value.oneCell']) (by simp only [maxLen]; omega) (by omega) (by have := hB.size; simp; omega) ?_; intro v' w1 hown' hgrow _; obtain ⟨g', cap', rfl⟩ := ownsRow_succ hown'; obtain ⟨hv1, hv2, hr2, hk2, hb2⟩ := hv.appended (by decide) hrow hB.size (by omega) hown' hgrow; have hc3 := hv1.cell; have hf3 := hv1.frozen)
    simp only [List.length_map] at hv2 hr2 hk2 hb2
    refine ⟨hk2, ⟨_, hv2, ?_⟩, Below.trans hB hb2⟩
    rw [List.map_append]
    simpa using hr2
  case done =>
    rintro tb W' hf ⟨⟨v, hv, hrow⟩, hB⟩ hK
    have hc2 := hv.cell
    have HRo := Lib.hid hrow
    have HB := Lib.hid hB
    have HF := Lib.hid hf
    clear hrow hB hf
    gi_wp2_with fail
    refine ⟨by simp, .inl ⟨_, _, rfl, run_takeDeferred hK, ?_⟩⟩
    refine ⟨_, results_tmp rfl _ _ _, v, tb, rfl, HF.out, ?_, E.bel_put HB.out (by have := HS.out; omega) _⟩
    have h := ownsRow_putObj HRo.out (.deferred none) hK rfl
    simpa using h
set_option maxRecDepth 100000 in
theorem collect_is {Ok : List Gr → Gr → Prop} {Fin : List Gr → Prop} {gf : Nat} {lb : Array Value} {Z : World → Prop} (w : World) (eg : ∀ args w, (callFunc gf args).run Tryz.prog w = .ok (.enter gf args) w)
    (hseq : SeqW Tryz.prog (fun x : Gr => #[.int .i32 x.1]) Ok Fin gf #[] lb Z) (hZ : ∀ W, Bel w W → Z W) (hlen : ∀ pre x, Ok pre x → pre.length ≤ 200000) :
    Calls Tryz.prog 29 #[.func (.func gf) #[] lb] w (CollPost Fin w) := by
  have HA := Lib.hid (append_is w eg hseq hZ hlen)
  clear eg hseq hZ hlen
  go_enter Tryz.func29, Tryz.ntmps29
  go_wp2_with (go_at_call 49; (with_reducible refine HA.out.mono ?_); rintro e w1 ⟨v, tb, rfl, h⟩)
  go_ret
  exact ⟨v, tb, rfl, h⟩
end Go.Proofs.YtipigfgnpfhdbaaGreatDoor.G
namespace Go.Proofs.YtipigfgnpfhdbaaGreatDoor.G
open Go.RowKit U M
set_option linter.unusedVariables false

theorem cell_of {w : World} {g i : Nat} {cs : Array Value} {t : TypeId} {f : Nat × Nat} (h : w.heap[g]? = some (.cells cs t f)) : w.cell? ⟨g, i, none⟩ = cs[i]? := by simp [World.cell?, h]
theorem frozen_of {w : World} {g i : Nat} {cs : Array Value} {t : TypeId} {lo hi : Nat} (h : w.heap[g]? = some (.cells cs t (lo, hi))) : w.frozen? ⟨g, i, none⟩ = (decide (lo ≤ i) && decide (i < hi)) := by simp [World.frozen?, h]
/-- A row of the call's own that is not empty: its cells, and what a store makes of it. -/
theorem own_row {w : World} {base n : Nat} {e : TypeId} {k : IntKind} {v : Value} {l : List Int} (h : U.Own w base e k v l) (hl : l.length = n) (h0 : 0 < n) :
    ∃ g cap, v = .slice (some ⟨g, 0, none⟩) n cap ∧ n ≤ cap ∧ base ≤ g ∧ g < w.heap.size ∧ (∀ i x, l[i]? = some x → w.cell? ⟨g, i, none⟩ = some (.int k x) ∧ w.frozen? ⟨g, i, none⟩ = false) ∧
      ∀ i x, i < n → U.Own (w.setCell ⟨g, i, none⟩ (.int k x)) base e k v (l.set i x) := by
  subst hl
  rcases h.2 with ⟨_, h1⟩ | ⟨g, cap, cur, rfl, hb, hg, hc, hm, hs, ht⟩
  · omega
  · have hcell : ∀ (i : Nat) (x : Int), l[i]? = some x → cur[i]? = some (.int k x) := fun i x hx => by
      have h1 : (cur.toList.take (l.length * 1))[i]? = some (.int k x) := by rw [ht]; simp [hx]
      rw [List.getElem?_take, if_pos (by have := (List.getElem?_eq_some_iff.1 hx).1; omega)] at h1
      rw [← Array.getElem?_toList]
      exact h1
    refine ⟨g, cap, rfl, hc, hb, (Array.getElem?_eq_some_iff.1 hg).1, fun i x hx => ?_, fun i x hi => ?_⟩
    · rw [cell_of hg, frozen_of hg]
      exact ⟨hcell i x hx, by simp⟩
    · have hg' : (w.setCell ⟨g, i, none⟩ (.int k x)).heap[g]? = some (.cells (cur.setIfInBounds i (.int k x)) e (0, 0)) := by simp [World.setCell, Array.getElem?_modify, hg]
      refine ⟨by simp, .inr ⟨g, cap, _, by rw [List.length_set], hb, hg', by rw [List.length_set]; exact hc, hm, by simpa using hs, ?_⟩⟩
      apply List.ext_getElem?
      intro j
      rw [List.getElem?_take, List.length_set]
      by_cases hj : j < l.length * 1
      · rw [if_pos hj, Array.getElem?_toList, Array.getElem?_setIfInBounds, List.getElem?_map, List.getElem?_set]
        have hj' : j < l.length := by omega
        have hcs : cur[j]? = some (.int k l[j]) := hcell j l[j] (by simp)
        by_cases hij : i = j
        · subst hij
          have : i < cur.size := (Array.getElem?_eq_some_iff.1 hcs).1
          simp [this, hj']
        · simp [hij, hcs, hj']
      · rw [if_neg hj]
        symm
        simp
        omega
theorem own_at {w : World} {base g n cap : Nat} {e : TypeId} {k : IntKind} {l : List Int} (h : U.Own w base e k (.slice (some ⟨g, 0, none⟩) n cap) l) (hn : 0 < n) :
    l.length = n ∧ n ≤ cap ∧ base ≤ g ∧ (∀ i x, l[i]? = some x → w.cell? ⟨g, i, none⟩ = some (.int k x) ∧ w.frozen? ⟨g, i, none⟩ = false) ∧ ∀ i x, i < n → U.Own (w.setCell ⟨g, i, none⟩ (.int k x)) base e k (.slice (some ⟨g, 0, none⟩) n cap) (l.set i x) := by
  have hl : l.length = n := by
    obtain ⟨A, c, he, _⟩ := h.rd
    simp only [Value.slice.injEq] at he
    omega
  obtain ⟨g', cap', he, hc, hb, _, h1, h2⟩ := own_row h hl hn
  simp only [Value.slice.injEq, Option.some.injEq, Addr.mk.injEq, and_true, true_and] at he
  obtain ⟨rfl, rfl⟩ := he
  exact ⟨hl, hc, hb, h1, h2⟩
theorem own_zero {base g n cap : Nat} {e : TypeId} {k : IntKind} : ∀ (m i : Nat) {w : World} {l : List Int}, U.Own w base e k (.slice (some ⟨g, 0, none⟩) n cap) l → i + m ≤ n →
    U.Own (w.setCells g i (List.replicate m (.int k 0))) base e k (.slice (some ⟨g, 0, none⟩) n cap) (l.take i ++ (List.replicate m 0 ++ l.drop (i + m))) := by
  intro m
  induction m with
  | zero => intro i w l h _; simpa [World.setCells] using h
  | succ m ih =>
    intro i w l h hi
    obtain ⟨hl, _, _, _, hset⟩ := own_at h (by omega)
    have h1 := ih (i + 1) (hset i 0 (by omega)) (by omega)
    have e1 : (l.set i 0).take (i + 1) = l.take i ++ [0] := by
      rw [List.take_add_one, List.take_set_of_le (by omega)]
      simp [List.getElem?_set, hl]
      omega
    have e2 : (l.set i 0).drop (i + 1 + m) = l.drop (i + (m + 1)) := by
      rw [List.drop_set_of_lt (by omega)]
      congr 1
      omega
    rw [e1, e2, List.append_assoc] at h1
    rw [List.replicate_succ, List.replicate_succ]
    exact h1
theorem own_take {w : World} {base g n cap : Nat} {e : TypeId} {k : IntKind} {l : List Int} (h : U.Own w base e k (.slice (some ⟨g, 0, none⟩) n cap) l) {i : Nat} (hi : i ≤ l.length) : U.Own w base e k (.slice (some ⟨g, 0, none⟩) i cap) (l.take i) := by
  have e : (l.take i).length = i := by rw [List.length_take]; omega
  refine ⟨by simp, ?_⟩
  rcases h.2 with ⟨h0, _⟩ | ⟨g', cap', cur, hv, hb, hg, hc, hm, hs, ht⟩
  · cases h0
  · simp only [Value.slice.injEq, Option.some.injEq, Addr.mk.injEq, and_true, true_and] at hv
    obtain ⟨rfl, rfl, rfl⟩ := hv
    refine .inr ⟨g, cap, cur, by rw [e], hb, hg, by omega, hm, hs, ?_⟩
    rw [e, Nat.mul_one]
    rw [Nat.mul_one] at ht
    rw [List.map_take, ← ht, List.take_take]
    congr 1
    omega
theorem below_cells {B g : Nat} (hB : B ≤ g) : ∀ (vs : List Value) (i : Nat) {a w : World}, Below B a w → Below B a (w.setCells g i vs) := by
  intro vs
  induction vs with
  | nil => intro i a w h; exact h
  | cons v vs ih => intro i a w h; exact ih (i + 1) (Below.setCell h hB v)

/-- The function tells p of the numbers of l, and lays blocks at most. -/
def PredIs (g : Nat) (cb : Array Value) (p : Int → Bool) (E : Nat) (w : World) (l : List Int) : Prop :=
  ∀ x ∈ l, ∀ w', Below E w w' → Calls Tryz.prog g (#[.int .i64 x] ++ cb) w' (fun e w'' => e = .returned (.bool (p x)) ∧ Bel w' w'')
def IdxPost (E : Nat) (w : World) (v : Value) (l : List Int) (p : Int → Bool) (e : Ending) (w' : World) : Prop :=
  U.Own w' E 3 .i64 v l ∧ Below E w w' ∧ ((e = .returned (.int .i64 (-1)) ∧ ∀ x ∈ l, p x = false) ∨ ∃ (i : Nat) (x : Int), e = .returned (.int .i64 i) ∧ l[i]? = some x ∧ p x = true ∧ ∀ y ∈ l.take i, p y = false)
def IdxRel (E : Nat) (w : World) (v : Value) (l : List Int) (p : Int → Bool) (u : Value) (wr : World) : Prop :=
  ∃ i : Nat, i ≤ l.length ∧ u = .int .i64 i ∧ U.Own wr E 3 .i64 v l ∧ Below E w wr ∧ ∀ y ∈ l.take i, p y = false
theorem take_all {l : List Int} {p : Int → Bool} {i : Nat} {x : Int} (h : ∀ y ∈ l.take i, p y = false) (hx : l[i]? = some x) (hp : p x = false) : ∀ y ∈ l.take (i + 1), p y = false := by
  intro y hy
  rw [List.take_add_one, hx] at hy
  rcases List.mem_append.1 hy with hy | hy
  · exact h y hy
  · simp at hy; rw [hy]; exact hp
set_option maxRecDepth 100000 in
set_option maxHeartbeats 4000000 in
theorem index_is (g : Nat) (cb : Array Value) (p : Int → Bool) (E : Nat) (v : Value) (l : List Int) (w : World) (eg : ∀ args w, (callFunc g args).run Tryz.prog w = .ok (.enter g args) w)
    (hlen : l.length ≤ 10000) (hE : E ≤ w.heap.size) (hown : U.Own w E 3 .i64 v l) (hp : PredIs g cb p E w l) :
    Calls Tryz.prog 62 #[v, .func (.func g) #[] cb] w (IdxPost E w v l p) := by
  have HP := Lib.hid hp
  have HO := Lib.hid hown
  obtain ⟨A, cap, rfl, hcap, hrd, hA⟩ := hown.rd
  have hlw : wrap64 (l.length : Int) = (l.length : Int) := by unfold wrap64; omega
  clear hp hown hrd hA hcap
  go_enter Tryz.func62, Tryz.ntmps62
  go_wp2
  go_loopw [8] (fun u wr => IdxRel E w (.slice A l.length cap) l p u wr) (fun u _ => l.length - (intOf u).toNat)
  case atStart => exact ⟨0, by omega, rfl, HO.out, Below.refl _ _, by simp⟩
  case round =>
    obtain ⟨i, hi, rfl, hown, hB, hall⟩ := hrel
    have HO2 := Lib.hid hown
    have HB := Lib.hid hB
    have HAll := Lib.hid hall
    clear hown hB hall
    by_cases hil : i < l.length
    · have p0 : decide ((i : Int) < (l.length : Int)) = true := by simp; omega
      have p1 : wrap64 ((i : Int) + 1) = ((i + 1 : Nat) : Int) := by unfold wrap64; omega
      obtain ⟨x, hx⟩ : ∃ x, l[i]? = some x := ⟨_, List.getElem?_eq_getElem hil⟩
      obtain ⟨A', cap', eA, hcap, hrd, hA⟩ := HO2.out.rd
      cases eA
      obtain ⟨g0, off, rfl, _, _⟩ := hrd.isSome (by omega)
      have c0 := hrd.at hx
      have HX := Lib.hid hx
      have hc := HP.out x (List.mem_of_getElem? hx) wr HB.out
      obtain ⟨b, hb⟩ : ∃ b, p x = b := ⟨_, rfl⟩
      rw [hb] at hc
      have HPx := Lib.hid hb
      clear hrd hA hcap hx hb
      cases b with
      | true =>
        go_wp2_with (go_at_fn g; refine hc.mono ?_; rintro e w1 ⟨rfl, hb1⟩)
        go_ret
        exact ⟨HO2.out.keep hb1, Below.trans HB.out (Below.mono hb1 (Nat.le_trans hE (Below.size HB.out))), .inr ⟨i, x, rfl, HX.out, HPx.out, HAll.out⟩⟩
      | false =>
        go_wp2_with (go_at_fn g; refine hc.mono ?_; rintro e w1 ⟨rfl, hb1⟩)
        exact ⟨⟨i + 1, by omega, by simp, HO2.out.keep hb1, Below.trans HB.out (Below.mono hb1 (Nat.le_trans hE (Below.size HB.out))), take_all HAll.out HX.out HPx.out⟩, by simp [intOf]; omega⟩
    · obtain rfl : i = l.length := by omega
      have p0 : decide ((l.length : Int) < (l.length : Int)) = false := by simp
      go_wp2
      go_ret
      exact ⟨HO2.out, HB.out, .inl ⟨rfl, fun x hx => HAll.out x (by rw [List.take_length]; exact hx)⟩⟩

/-- What is left of the first j numbers; what of the row is not looked at any more. -/
def kept (p : Int → Bool) (l : List Int) : List Int := l.filter fun x => !p x
theorem kept_succ {p : Int → Bool} {l : List Int} {j : Nat} {x : Int} (h : l[j]? = some x) : kept p (l.take (j + 1)) = kept p (l.take j) ++ (if p x then [] else [x]) := by
  unfold kept
  rw [List.take_add_one, h, List.filter_append]
  congr 1
  cases hb : p x <;> simp [hb]
theorem kept_none {p : Int → Bool} {l : List Int} (h : ∀ x ∈ l, p x = false) : kept p l = l := List.filter_eq_self.2 fun x hx => by simp [h x hx]
theorem kept_le (p : Int → Bool) (l : List Int) : (kept p l).length ≤ l.length := List.length_filter_le _ _
def DelRel (E : Nat) (w : World) (v : Value) (l : List Int) (p : Int → Bool) (u5 u6 : Value) (wr : World) : Prop :=
  ∃ (i j : Nat) (m : List Int), j ≤ l.length ∧ i < j ∧ u5 = .int .i64 i ∧ u6 = .int .i64 j ∧ (kept p (l.take j)).length = i ∧ i + m.length = j ∧ U.Own wr E 3 .i64 v (kept p (l.take j) ++ (m ++ l.drop j)) ∧ Below E w wr
def DelPost (E : Nat) (w : World) (l : List Int) (e : Ending) (w' : World) : Prop := ∃ v, e = .returned v ∧ U.Own w' E 3 .i64 v l ∧ Below E w w'
theorem row_at_j (K m D : List Int) {j : Nat} {y : Int} (h : K.length + m.length = j) (hD : D[0]? = some y) : (K ++ (m ++ D))[j]? = some y := by
  rw [← List.append_assoc, List.getElem?_append_right (by rw [List.length_append]; omega), List.length_append, h, Nat.sub_self]
  exact hD
theorem row_set_i (K m D : List Int) {i : Nat} {y : Int} (h : K.length = i) (hm : 0 < m.length) : (K ++ (m ++ D)).set i y = (K ++ [y]) ++ (m.tail ++ D) := by
  subst h
  cases m with
  | nil => simp at hm
  | cons a m => simp
theorem row_some (K m D : List Int) {i j : Nat} (h : K.length = i) (hm : i + m.length = j) (hij : i < j) : ∃ z, (K ++ (m ++ D))[i]? = some z := by
  refine ⟨_, List.getElem?_eq_getElem ?_⟩
  rw [List.length_append, h, List.length_append]
  omega
theorem row_any (L : List Int) {n i : Nat} (h : L.length = n) (hi : i < n) : ∃ z, L[i]? = some z := ⟨_, List.getElem?_eq_getElem (by omega)⟩
theorem take_le {i n a : Nat} (h : i < n) : i ≤ min i n + a := by omega
theorem tail_pos {i k j : Nat} (h : i + k = j) (hij : i < j) : 0 < k := by omega
theorem tail_len {i j : Nat} {m : List Int} (h : i + m.length = j) (hij : i < j) : i + 1 + (m.tail.length + 1) = j + 1 := by rw [List.length_tail]; omega
theorem meas {a n : Nat} (h : a < n) : n - (a + 1) < n - a := by omega
theorem cap_ne {i n c : Nat} (h : i < n) (h2 : n ≤ c) : ¬ c = i := by omega
theorem take_row (K m D Z : List Int) {i : Nat} (h : K.length = i) : ((K ++ (m ++ D)).take i ++ Z).take i = K := by subst h; simp
theorem drop_zero {l : List Int} {j : Nat} {y : Int} (h : l[j]? = some y) : (l.drop j)[0]? = some y := by rw [List.getElem?_drop]; exact h
theorem drop_cons {l : List Int} {j : Nat} {y : Int} (h : l[j]? = some y) : l.drop j = y :: l.drop (j + 1) := by
  obtain ⟨h1, h2⟩ := List.getElem?_eq_some_iff.1 h
  rw [← h2]
  exact List.drop_eq_getElem_cons h1
theorem start_row {l : List Int} {i : Nat} {x : Int} (h : l[i]? = some x) : l.take i ++ ([x] ++ l.drop (i + 1)) = l := by
  have e := drop_cons h
  rw [List.singleton_append, ← e, List.take_append_drop]
theorem wrap_succ {n : Nat} (h : n ≤ 10000) : wrap64 ((n : Int) + 1) = ((n + 1 : Nat) : Int) := by unfold wrap64; omega
theorem lt_true {a b : Nat} (h : a < b) : decide ((a : Int) < (b : Int)) = true := by simp; omega
theorem lt_same (a : Nat) : decide ((a : Int) < (a : Int)) = false := by simp
theorem zero_int (w : World) : (zeroValue 3).run Tryz.prog w = .ok (.int .i64 0) w := by kernel_rfl
set_option maxRecDepth 100000 in
set_option maxHeartbeats 4000000 in
theorem delete_is (g : Nat) (cb : Array Value) (p : Int → Bool) (E : Nat) (v : Value) (l : List Int) (w : World) (eg : ∀ args w, (callFunc g args).run Tryz.prog w = .ok (.enter g args) w)
    (hlen : l.length ≤ 10000) (hE : E ≤ w.heap.size) (hown : U.Own w E 3 .i64 v l) (hp : PredIs g cb p E w l) :
    Calls Tryz.prog 38 #[v, .func (.func g) #[] cb] w (DelPost E w (kept p l)) := by
  have HP := Lib.hid hp
  have HO := Lib.hid hown
  have HI := Lib.hid (index_is g cb p E v l w eg hlen hE hown hp)
  obtain ⟨A, cap, rfl, hcap, hrd, hA⟩ := hown.rd
  have hlw : wrap64 (l.length : Int) = (l.length : Int) := by unfold wrap64; omega
  have HE := Lib.hid hE
  clear hp hown hrd hA hE hcap
  go_enter Tryz.func38, Tryz.ntmps38
  go_wp2_with fail
  refine HI.out.mono ?_
  rintro e w1 ⟨hown, hB, ⟨rfl, hall⟩ | ⟨i, x, rfl, hx, hpx, hall⟩⟩
  · have HO1 := Lib.hid hown
    have HB1 := Lib.hid hB
    have HA := Lib.hid (kept_none hall)
    clear hown hB hall
    go_wp2
    go_ret
    exact ⟨_, rfl, by rw [HA.out]; exact HO1.out, HB1.out⟩
  · have HO1 := Lib.hid hown
    have HB1 := Lib.hid hB
    have HA := Lib.hid hall
    have HX := Lib.hid hx
    have HPx := Lib.hid hpx
    have hil : i < l.length := (List.getElem?_eq_some_iff.1 hx).1
    have p0 : ((i : Int) == -1) = false := by simp
    have p1 := wrap_succ (Nat.le_trans (Nat.le_of_lt hil) hlen)
    obtain ⟨A0, cap0, eA, -, hrd, -⟩ := hown.rd
    cases eA
    obtain ⟨g0, off, rfl, -, -⟩ := hrd.isSome (by omega)
    have hoff : off = 0 := by
      rcases hown.2 with ⟨h0, _⟩ | ⟨g', cap', cur, hv, _⟩
      · cases h0
      · simp only [Value.slice.injEq, Option.some.injEq, Addr.mk.injEq] at hv
        exact hv.1.2.1
    subst hoff
    clear hown hB hall hx hpx hrd
    go_wp2
    go_loopw [5, 6] (fun u5 u6 wr => DelRel E w (.slice (some ⟨g0, 0, none⟩) l.length cap) l p u5 u6 wr) (fun _ u6 _ => l.length - (intOf u6).toNat)
    case atStart =>
      have hk1 : kept p (l.take (i + 1)) = l.take i := by rw [kept_succ HX.out, HPx.out, kept_none HA.out, if_pos rfl, List.append_nil]
      refine ⟨i, i + 1, [x], by omega, by omega, rfl, by simp, ?_, by simp, ?_, HB1.out⟩
      · rw [hk1, List.length_take]; omega
      · rw [hk1, start_row HX.out]; exact HO1.out
    case round =>
      obtain ⟨i2, j, m, hj, hij, rfl, rfl, hk, hm, hown, hB⟩ := hrel
      have HO2 := Lib.hid hown
      have HB2 := Lib.hid hB
      have HK := Lib.hid hk
      have HM := Lib.hid hm
      obtain ⟨hlen2, hcap2, hEg, hcell, hset⟩ := own_at hown (by omega)
      clear hk hown hB
      by_cases hjl : j < l.length
      · have q0 := lt_true hjl
        have q1 := wrap_succ (Nat.le_trans hj hlen)
        have q2 := wrap_succ (Nat.le_trans (Nat.le_of_lt hij) (Nat.le_trans hj hlen))
        obtain ⟨y, hy⟩ : ∃ y, l[j]? = some y := ⟨_, List.getElem?_eq_getElem hjl⟩
        have hcy := (hcell j y (row_at_j _ _ _ (by rw [HK.out]; exact hm) (drop_zero hy))).1
        have hc := HP.out y (List.mem_of_getElem? hy) wr HB2.out
        obtain ⟨b, hb⟩ : ∃ b, p y = b := ⟨_, rfl⟩
        rw [hb] at hc
        have HPy := Lib.hid hb
        have HY := Lib.hid hy
        have HJ := Lib.hid (And.intro hij hm)
        have HEg := Lib.hid hEg
        have HJL := Lib.hid hjl
        clear hb hy hcell hset hm hlen2 hcap2 hij hj hEg hjl
        go_wp2_with fail
        refine hc.mono ?_
        rintro e w2 ⟨rfl, hb2⟩
        have HB3 : Hid (Below E w w2) := Lib.hid (Below.trans HB2.out (Below.mono hb2 (Nat.le_trans HE.out (Below.size HB2.out))))
        have HO3 := Lib.hid (HO2.out.keep hb2)
        obtain ⟨-, -, -, hcell, hset⟩ := own_at HO3.out (Nat.lt_of_le_of_lt (Nat.zero_le _) HJL.out)
        have HSet := Lib.hid hset
        obtain ⟨z, hz⟩ := row_some _ m (l.drop j) HK.out HJ.out.2 HJ.out.1
        obtain ⟨c1, f1⟩ := hcell i2 z hz
        have hend : Hid (kept p (l.take (j + 1)) = kept p (l.take j) ++ (if p y then [] else [y])) := Lib.hid (kept_succ HY.out)
        have hdr : Hid (l.drop j = y :: l.drop (j + 1)) := Lib.hid (drop_cons HY.out)
        clear hcell hset hz hc
        cases b with
        | true =>
          go_wp2
          refine ⟨⟨i2, j + 1, m ++ [y], HJL.out, Nat.lt_succ_of_lt HJ.out.1, rfl, by simp, ?_, ?_, ?_, HB3.out⟩, by simp [intOf]; exact meas HJL.out⟩
          · rw [hend.out, HPy.out, if_pos rfl, List.append_nil]; exact HK.out
          · rw [List.length_append, List.length_singleton, ← Nat.add_assoc, HJ.out.2]
          · have h := HO3.out
            rw [hdr.out] at h
            rw [hend.out, HPy.out, if_pos rfl, List.append_nil, List.append_assoc]
            exact h
        | false =>
          have hst := HSet.out i2 y (Nat.lt_trans HJ.out.1 HJL.out)
          rw [row_set_i _ _ _ HK.out (tail_pos HJ.out.2 HJ.out.1), hdr.out] at hst
          have HSt := Lib.hid hst
          clear hst
          have hi2l : i2 < l.length := Nat.lt_trans HJ.out.1 HJL.out
          go_wp2
          refine ⟨⟨i2 + 1, j + 1, m.tail ++ [y], HJL.out, Nat.succ_lt_succ HJ.out.1, by simp, by simp, ?_, ?_, ?_, Below.setCell HB3.out HEg.out _⟩, by simp [intOf]; exact meas HJL.out⟩
          · rw [hend.out, HPy.out, if_neg (by simp), List.length_append, HK.out]; rfl
          · rw [List.length_append, List.length_singleton]; exact tail_len HJ.out.2 HJ.out.1
          · rw [hend.out, HPy.out, if_neg (by simp), List.append_assoc m.tail]
            exact HSt.out
      · obtain rfl : j = l.length := by omega
        have q0 := lt_same l.length
        have hcl : ∀ ty, (Builtin.clear_ #[62] ty #[.slice (some ⟨g0, i2, none⟩) (l.length - i2) (cap - i2)]).run Tryz.prog wr = .ok (.tuple #[]) (wr.setCells g0 i2 (List.replicate (l.length - i2) (.int .i64 0))) := fun ty =>
          Lib.run_clear_slice wr 62 3 ty (.int .i64 0) Tryz.underlying62 zero_int rfl rfl g0 i2 _ _ (Nat.sub_pos_of_lt hij) (fun t ht => by obtain ⟨z, hz⟩ := row_any _ hlen2 (Nat.add_lt_of_lt_sub' ht); rw [(hcell _ z hz).1]; rfl) (fun t ht => by obtain ⟨z, hz⟩ := row_any _ hlen2 (Nat.add_lt_of_lt_sub' ht); exact (hcell _ z hz).2)
        have hz := own_take (own_zero (l.length - i2) i2 HO2.out (by rw [Nat.add_sub_cancel' (Nat.le_of_lt hij)]; exact Nat.le_refl _)) (i := i2) (by rw [List.length_append, List.length_take, hlen2]; exact take_le hij)
        have HZ := Lib.hid hz
        have HIJ := Lib.hid hij
        have HEg := Lib.hid hEg
        have s1 : i2 ≤ l.length := Nat.le_of_lt hij
        have s2 : l.length ≤ cap := hcap2
        clear hz hij hEg hj hlen2 hcap2 hcell hset
        have s3 : ¬ cap = i2 := cap_ne HIJ.out s2
        have HK2 : Hid (kept p l = kept p (l.take l.length)) := Lib.hid (by rw [List.take_length])
        go_wp2_with fail
        go_ret
        refine ⟨_, rfl, ?_, below_cells HEg.out _ _ HB2.out⟩
        have h := HZ.out
        rw [take_row _ _ _ _ HK.out] at h
        rw [HK2.out]
        exact h
end Go.Proofs.YtipigfgnpfhdbaaGreatDoor.G
namespace Go.Proofs.YtipigfgnpfhdbaaGreatDoor.G
open Go.RowKit U M
set_option linter.unusedVariables false

/-- Is this number to be struck? -/
def struck (s r n : Int) : Bool := !((cr s n).2 && (cr s n).1 == r)
def numsH (r s : Int) : List Int := if s = 9 then E.codesL r 10 else kept (struck s r) (everyL s)
set_option maxHeartbeats 2000000 in
theorem struck_is (s n r : Int) (B1 B2 : Nat) (w : World) (hs : 1 ≤ s ∧ s ≤ 12) (hn : 0 ≤ n ∧ n ≤ 16777216) (hT : Tz w) (c2 : w.cell? ⟨B2, 0, none⟩ = some (.int .i64 s)) (c1 : w.cell? ⟨B1, 0, none⟩ = some (.int .i32 r)) :
    Calls Tryz.prog 39 #[.int .i64 n, .pointer (some ⟨B2, 0, none⟩), .pointer (some ⟨B1, 0, none⟩)] w fun e w' => e = .returned (.bool (struck s r n)) ∧ Bel w w' := by
  obtain ⟨x, b, hc⟩ : ∃ x b, cr s n = (x, b) := ⟨_, _, rfl⟩
  have HR := Lib.hid (rune_at s n x b hs (by omega) hc w hT)
  have e0 : struck s r n = !(b && x == r) := by unfold struck; rw [hc]
  have HC1 := Lib.hid c1
  rw [e0]
  clear hc hs hn hT e0
  go_enter Tryz.func39, Tryz.ntmps39
  go_wp2_with fail
  refine HR.out.mono ?_
  rintro e w1 ⟨rfl, hb⟩
  have c3 : w1.cell? ⟨B1, 0, none⟩ = some (.int .i32 r) := (Below.cell hb (p := ⟨B1, 0, none⟩) (cell_block HC1.out)).trans HC1.out
  clear c1 c2
  cases b with
  | false =>
    go_wp2
    go_ret
    exact ⟨rfl, hb⟩
  | true =>
    go_wp2
    go_ret
    refine ⟨ret_bool ?_, hb⟩
    rw [Bool.eq_iff_iff]
    simp
theorem everyL_len (s : Int) : (everyL s).length ≤ 10000 := by
  unfold everyL
  split
  · rw [rows_len]; simp [rowsL]
  · rw [rowL_len]; omega
theorem rowL_mem {h n : Int} (hn : n ∈ rowL h) : h + 33 ≤ n ∧ n ≤ h + 126 := by
  unfold rowL at hn
  obtain ⟨i, hi, rfl⟩ := List.mem_map.1 hn
  rw [List.mem_range] at hi
  omega
theorem everyL_fit {s n : Int} (hn : n ∈ everyL s) : 0 ≤ n ∧ n ≤ 16777216 := by
  unfold everyL at hn
  split at hn
  · obtain ⟨z, hz, hn⟩ := List.mem_flatMap.1 hn
    have h1 := List.all_eq_true.1 (show rowsL.all (fun z => decide (0 ≤ z) && decide (z ≤ 16000000)) = true by decide) z hz
    have h2 := rowL_mem hn
    simp at h1
    omega
  · have h2 := rowL_mem hn
    omega
theorem enters26 : ∀ (args : Array Value) (w : World), (callFunc 39 args).run Tryz.prog w = .ok (.enter 39 args) w := enters_of Tryz.func39 (by kernel_rfl) rfl
theorem enters23 : ∀ (args : Array Value) (w : World), (callFunc 36 args).run Tryz.prog w = .ok (.enter 36 args) w := enters_of Tryz.func36 (by kernel_rfl) rfl
theorem enters13 : ∀ (args : Array Value) (w : World), (callFunc 20 args).run Tryz.prog w = .ok (.enter 20 args) w := enters_of Tryz.func20 (by kernel_rfl) rfl
theorem Tz.below {w w' : World} (h : Tz w) (hb : Bel w w') : Tz w' := h.bel hb
/-- The predicate, wherever the list lies. -/
theorem pred_is (s r : Int) (B1 : Nat) (w w1 : World) (E : Nat) (hs : 1 ≤ s ∧ s ≤ 12) (hT : Tz w) (c1 : w.cell? ⟨B1, 0, none⟩ = some (.int .i32 r)) (hb : Bel (w.alloc (.cells #[.int .i64 s] 3)) w1) (hE : w.heap.size + 1 ≤ E) :
    PredIs 39 #[.pointer (some ⟨w.heap.size, 0, none⟩), .pointer (some ⟨B1, 0, none⟩)] (struck s r) E w1 (everyL s) := by
  intro n hn w' hw
  have hb2 : Bel w w' := Bel.trans ((Bel.refl w).alloc _) (Below.trans hb (Below.mono hw (by simpa using hE)))
  have hb3 : Below (w.heap.size + 1) (w.alloc (.cells #[.int .i64 s] 3)) w' := Below.trans (Below.mono hb (by simp)) (Below.mono hw hE)
  have c2 : w'.cell? ⟨w.heap.size, 0, none⟩ = some (.int .i64 s) := (Below.cell hb3 (p := ⟨w.heap.size, 0, none⟩) (by simp)).trans (by simp)
  have c3 : w'.cell? ⟨B1, 0, none⟩ = some (.int .i32 r) := (Below.cell hb2 (p := ⟨B1, 0, none⟩) (cell_block c1)).trans c1
  exact struck_is s n r B1 w.heap.size w' hs (everyL_fit hn) (hT.bel hb2) c2 c3
set_option maxHeartbeats 2000000 in
theorem numbers_is (s r : Int) (B1 : Nat) (w : World) (hs : 1 ≤ s ∧ s ≤ 12) (hG : Gz w) (c1 : w.cell? ⟨B1, 0, none⟩ = some (.int .i32 r)) :
    Calls Tryz.prog 36 #[.int .i64 s, .pointer (some ⟨B1, 0, none⟩)] w (OwnPost w (numsH r s)) := by
  have HG := Lib.hid hG
  have HC1 := Lib.hid c1
  have HS := Lib.hid hs
  have c2 : (w.alloc (.cells #[.int .i64 s] 3)).cell? ⟨B1, 0, none⟩ = some (.int .i32 r) := (Below.cell ((Bel.refl w).alloc _) (p := ⟨B1, 0, none⟩) (cell_block c1)).trans c1
  have hmf : ∀ (f : Nat) (args : Array Value) (w : World), (Instr.makeFunc (.func f) #[] args).run Tryz.prog w = .ok (.func (.func f) #[] args) w := fun f args w => rfl
  unfold numsH
  by_cases h9 : s = 9
  · rw [if_pos h9]
    subst h9
    have HE := Lib.hid (fun w => E.codes_is r w)
    clear hG hs c1
    go_enter Tryz.func36, Tryz.ntmps36
    go_wp2_with fail
    refine (HE.out _).mono ?_
    rintro e w1 ⟨v, rfl, hown, hb⟩
    have HO : Hid (U.Own w1 w.heap.size 3 .i64 v (E.codesL r 10)) := Lib.hid (hown.less (by simp))
    have HB : Hid (Bel w w1) := Lib.hid (Bel.trans ((Bel.refl w).alloc _) hb)
    clear hown hb
    go_wp2
    go_ret
    exact ⟨_, rfl, HO.out, HB.out⟩
  · rw [if_neg h9]
    have e : (s == 9) = false := by simpa using h9
    have HE := Lib.hid (every_is s (w.alloc (.cells #[.int .i64 s] 3)) (hG.bel ((Bel.refl w).alloc _)).2.2)
    clear hG hs c1 h9
    go_enter Tryz.func36, Tryz.ntmps36
    go_wp2_with fail
    refine HE.out.mono ?_
    rintro e1 w1 ⟨v, rfl, hown, hb⟩
    have HP := Lib.hid (pred_is s r B1 w w1 (w.heap.size + 1) HS.out HG.out.1 HC1.out hb (Nat.le_refl _))
    have HD := Lib.hid (delete_is 39 _ (struck s r) (w.heap.size + 1) v (everyL s) w1 enters26 (everyL_len s) (by have := Below.size hb; simpa using this) (by simpa using hown) HP.out)
    have HB : Hid (Bel w w1) := Lib.hid (Bel.trans ((Bel.refl w).alloc _) hb)
    clear hown hb
    go_wp2_with fail
    refine HD.out.mono ?_
    rintro e2 w2 ⟨v2, rfl, hown2, hb2⟩
    go_wp2
    go_ret
    exact ⟨_, rfl, hown2.less (Nat.le_succ _), Below.trans HB.out (Below.mono hb2 (Nat.le_succ _))⟩
theorem having_is (r : Int) (w : World) : Calls Tryz.prog 21 #[.int .i32 r] w fun e w' => e = .returned (.func (.func 36) #[] #[.pointer (some ⟨w.heap.size, 0, none⟩)]) ∧ w' = w.alloc (.cells #[.int .i32 r] 21) := by
  have hmf : ∀ (f : Nat) (args : Array Value) (w : World), (Instr.makeFunc (.func f) #[] args).run Tryz.prog w = .ok (.func (.func f) #[] args) w := fun f args w => rfl
  go_enter Tryz.func21, Tryz.ntmps21
  go_wp2
  go_ret
  exact ⟨rfl, rfl⟩
end Go.Proofs.YtipigfgnpfhdbaaGreatDoor.G
