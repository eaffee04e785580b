/- What the splitter's add does: all that comes of a character is put behind what is apart already. What the reference's Runes answers: whether two lists are one. At most 2^40 of each. What slices.swapRangeCmpFunc makes of a row: two runs as long change places. What slices.insertionSortCmpFunc makes of a run of marks: it is sorted, stable. The mathematics of slices.symMergeCmpFunc and slices.stableCmpFunc: two sorted runs of marks made one. What slices.symMergeCmpFunc makes of one mark and a sorted run behind it. What slices.symMergeCmpFunc makes of a sorted run and one mark behind it. What slices.rotateCmpFunc makes of a row: two runs side by side change places. -/
import Derived.Test.YtipigfgnpfhdbaaGreatDoorM10
import Derived.Test.YtipigfgnpfhdbaaGreatDoorChecked
import Derived.Test.YtipigfgnpfhdbaaGreatDoorM8
import Derived.Test.YtipigfgnpfhdbaaGreatDoorM9
namespace Go.Proofs.YtipigfgnpfhdbaaGreatDoor.F
open Go.RowKit U
set_option linter.unusedVariables false

section
variable {P : Program} {w : World}
/-- 'append' onto a row of the call's own, and which block it may write. -/
theorem run_append_o {t ty e : TypeId} {base : Nat} {i : TypeInfo} {z : Value} {bytes : Nat} (ht : P.underlying t = some (.slice e)) (hi : P.info? e = some i) (hz : i.zero = some z)
    (hsize : i.size = 1) (hby : i.bytes = bytes) (hzs : z.cells.size = 1) (hb8 : bytes ≤ 8)
    {k : IntKind} {v : Value} {xs : List Int} (hown : U.Own w base e k v xs)
    {B g o : Nat} {m c : Nat} {ys : List Int} (hr : Rd w B k (some ⟨g, o, none⟩) ys) (hm : ys.length = m)
    (hn : xs.length + m ≤ 1099511627776) (hbase : base ≤ w.heap.size) :
    ∃ v' w', (Builtin.append_ #[t, t] ty #[v, .slice (some ⟨g, o, none⟩) m c]).run P w = .ok v' w' ∧ U.Own w' base e k v' (xs ++ ys) ∧ w.grownBy w' v.ownBlock ∧ (v'.ownBlock = v.ownBlock ∨ v'.ownBlock = some w.heap.size) := by
  have h63 : xs.length + m ≤ maxLen := by simp only [maxLen]; omega
  have hbytes : (xs.length + m) * bytes ≤ 140737488355328 := Nat.le_trans (Nat.mul_le_mul hn hb8) (by decide)
  have hnews : ∀ j u, (ys.map (Value.int k))[j]? = some u → w.cell? ((⟨g, o, none⟩ : Addr).add j) = some u := by
    intro j u hu
    rw [List.getElem?_map] at hu
    obtain ⟨y, hy, rfl⟩ := Option.map_eq_some_iff.1 hu
    rw [addr_add]; exact hr.at hy
  obtain ⟨v', w', h1, h2, h3, _, h5⟩ := run_append_own_at (P := P) w base t ty e i z 1 bytes ht hi hz hsize hby hzs (by omega) v _ _ hown ⟨g, o, none⟩ m c (ys.map (Value.int k)) (by simp [hm]) hnews (one_cells k ys) h63 hbytes hbase
  exact ⟨v', w', h1, by unfold U.Own; simpa [hm] using h2, h3, h5⟩
theorem wpl_append_o {ops : Array Oper} {rest : List Oper} {o : Oper} {a : Act} {Q : Exit → Act → World → Prop} (hw : Region.wanted o (yielded ops a.tmps) = true) (s x : Operand) (t : TypeId)
    (ho : o.op = .call { callee := .builtin .append, args := #[s, x], argTypes := #[t, t] })
    {e : TypeId} {base : Nat} {i : TypeInfo} {z : Value} {bytes : Nat} (ht : P.underlying t = some (.slice e)) (hi : P.info? e = some i) (hz : i.zero = some z)
    (hsize : i.size = 1) (hby : i.bytes = bytes) (hzs : z.cells.size = 1) (hb8 : bytes ≤ 8)
    {k : IntKind} {v : Value} {xs : List Int} (hown : U.Own w base e k v xs) (hs : a.eval s = v)
    {B g off : Nat} {m c : Nat} {ys : List Int} (hr : Rd w B k (some ⟨g, off, none⟩) ys) (hx : a.eval x = .slice (some ⟨g, off, none⟩) m c) (hm : ys.length = m)
    (hn : xs.length + m ≤ 1099511627776) (hbase : base ≤ w.heap.size)
    (h : ∀ v' w', U.Own w' base e k v' (xs ++ ys) → w.grownBy w' v.ownBlock → (v'.ownBlock = v.ownBlock ∨ v'.ownBlock = some w.heap.size) → wpList P ops Q rest (a.put o.dst v') w') : wpList P ops Q (o :: rest) a w :=
  BigFrame.wpList_want hw fun _ hK => by
    obtain ⟨v', w', hrun, h2, h4, h5⟩ := run_append_o (P := P) (ty := o.type) (c := c) ht hi hz hsize hby hzs hb8 hown hr hm hn hbase
    unfold Oper.wp execOp
    simp only [ho, resolve, invoke, builtin, Sem.run_bind, Sem.run_pure, Result.andThen_ok, List.map_toArray, List.map_cons, List.map_nil, hs, hx, hrun]
    exact hK _ _ (h v' w' h2 h4 h5)
end

theorem byteOf_is {w : World} {B : Nat} {v : Value} (h : w.heap[B]? = some (.cells #[v] 93 (0, 0))) : (byteOf ⟨B, 0, none⟩).run Tryz.prog w = .ok 0 w := by
  have hc : Tryz.prog.cellsOf 93 = 1 := by kernel_rfl
  have hb : byteOfCell Tryz.prog Tryz.prog.depth 93 0 = some 0 := by kernel_rfl
  simp [byteOf, noView, viewAt, World.shape?, h, hc, hb]
/-- The table, which has no cells, lies where the splitter lies. -/
theorem part_is {w : World} {B : Nat} {v : Value} (h : w.heap[B]? = some (.cells #[v] 93 (0, 0))) : (partAt ⟨B, 0, none⟩ 0 0).run Tryz.prog w = .ok ⟨B, 0, none⟩ w := by
  unfold partAt
  simp [byteOf_is h]
/-- The splitter lies in block B and holds v, a row of its own. -/
def Spt (B : Nat) (w : World) (v : Value) (l : List Int) : Prop := w.heap[B]? = some (.cells #[v] 93 (0, 0)) ∧ U.Own w (B + 1) 21 .i32 v l
theorem Spt.cell {B : Nat} {w : World} {v : Value} {l : List Int} (h : Spt B w v l) : w.cell? ⟨B, 0, none⟩ = some v := by simp [World.cell?, h.1]
theorem Spt.free {B : Nat} {w : World} {v : Value} {l : List Int} (h : Spt B w v l) : w.frozen? ⟨B, 0, none⟩ = false := by simp [World.frozen?, h.1]
theorem Spt.lt {B : Nat} {w : World} {v : Value} {l : List Int} (h : Spt B w v l) : B < w.heap.size := (Array.getElem?_eq_some_iff.1 h.1).1
/-- Nothing but the splitter and its row is changed; a new row lies in a block of its own. -/
def Fr (B : Nat) (w : World) (v : Value) (w' : World) (v' : Value) : Prop :=
  w'.os = w.os ∧ w'.tape = w.tape ∧ w'.output = w.output ∧ w.heap.size ≤ w'.heap.size ∧ ∀ G, G < w.heap.size → G ≠ B → v.ownBlock ≠ some G → (w'.heap[G]? = w.heap[G]? ∧ v'.ownBlock ≠ some G)
theorem Fr.trans {B : Nat} {w w' w'' : World} {v v' v'' : Value} (h : Fr B w v w' v') (k : Fr B w' v' w'' v'') : Fr B w v w'' v'' := by
  obtain ⟨h1, h2, h3, h4, h5⟩ := h
  obtain ⟨k1, k2, k3, k4, k5⟩ := k
  refine ⟨k1.trans h1, k2.trans h2, k3.trans h3, Nat.le_trans h4 k4, fun G hG hB hv => ?_⟩
  obtain ⟨a1, a2⟩ := h5 G hG hB hv
  obtain ⟨b1, b2⟩ := k5 G (Nat.lt_of_lt_of_le hG h4) hB a2
  exact ⟨b1.trans a1, b2⟩
theorem Fr.bel {B : Nat} {w w' : World} (v : Value) (h : Bel w w') : Fr B w v w' v := ⟨h.os, h.tape, h.output, h.size, fun G hG _ hv => ⟨h.block G hG, hv⟩⟩
theorem Fr.refl (B : Nat) (w : World) (v : Value) : Fr B w v w v := Fr.bel v (Bel.refl w)
theorem own_block {w : World} {base : Nat} {v : Value} {l : List Int} (h : U.Own w base 21 .i32 v l) {g : Nat} (hg : v.ownBlock = some g) : base ≤ g ∧ g < w.heap.size := World.ownsRow.lt h g hg
theorem Fr.below {B : Nat} {w w' : World} {v v' : Value} {l : List Int} (h : Fr B w v w' v') (hs : Spt B w v l) : Below B w w' := by
  obtain ⟨h1, h2, h3, h4, h5⟩ := h
  refine ⟨h1, h2, h3, h4, fun k hk => ?_⟩
  exact (h5 k (Nat.lt_trans hk hs.lt) (by omega) fun e => by have := (own_block hs.2 e).1; omega).1
theorem Spt.bel {B : Nat} {w w' : World} {v : Value} {l : List Int} (h : Spt B w v l) (hb : Bel w w') : Spt B w' v l :=
  ⟨by rw [hb.block B h.lt]; exact h.1, h.2.keep hb⟩
/-- A row that is not the splitter's reads as it did. -/
theorem Fr.rd {B : Nat} {w w' : World} {v v' : Value} {A : Option Addr} {l : List Int} {C : Nat} (h : Fr B w v w' v') (hr : Rd w C .i32 A l) (hB : ∀ a, A = some a → a.block ≠ B) (hv : ∀ a, A = some a → v.ownBlock ≠ some a.block) : Rd w' C .i32 A l := fun i x hx => by
  obtain ⟨g, off, rfl, hg, hc⟩ := hr i x hx
  refine ⟨g, off, rfl, hg, ?_⟩
  have h5 := (h.2.2.2.2 g (cell_block hc) (hB _ rfl) (hv _ rfl)).1
  simp only [World.cell?, h5]
  exact hc
theorem own_set {w : World} {base B : Nat} {v u : Value} {l : List Int} (h : U.Own w base 21 .i32 v l) (hB : B < base) : U.Own (w.setCell ⟨B, 0, none⟩ u) base 21 .i32 v l := by
  refine ⟨h.1, ?_⟩
  rcases h.2 with h | ⟨g, cap, cur, hv, hbg, hg, rest⟩
  · exact .inl h
  · exact .inr ⟨g, cap, cur, hv, hbg, by rw [Below.heap_setCell _ _ _ _ (by show g ≠ B; omega)]; exact hg, rest⟩
theorem add_block {w w2 : World} {B : Nat} {v : Value} {l : List Int} (h : Spt B w v l) (hg : w.grownBy w2 v.ownBlock) : w2.heap[B]? = some (.cells #[v] 93 (0, 0)) :=
  (hg.block B h.lt fun e => by have := (own_block h.2 e.symm).1; omega).trans h.1
theorem set_block {w : World} {B : Nat} {v : Value} (h : w.heap[B]? = some (.cells #[v] 93 (0, 0))) (u : Value) : (w.setCell ⟨B, 0, none⟩ u).heap[B]? = some (.cells #[u] 93 (0, 0)) := by
  simp [World.setCell, Array.getElem?_modify, h]
theorem add_frame {w w2 : World} {B : Nat} {v v2 : Value} {l : List Int} (h : Spt B w v l) (hg : w.grownBy w2 v.ownBlock) (hv : v2.ownBlock = v.ownBlock ∨ v2.ownBlock = some w.heap.size) (u : Value) : Fr B w v (w2.setCell ⟨B, 0, none⟩ u) v2 := by
  obtain ⟨h1, h2, h3, h4, h5⟩ := hg
  refine ⟨h1, h2, h3, by simpa using h4, fun G hG hB hne => ⟨?_, ?_⟩⟩
  · rw [Below.heap_setCell _ _ _ _ (by exact hB)]
    exact h5 G hG fun e => hne e.symm
  · rcases hv with e | e
    · rw [e]; exact hne
    · rw [e]; intro e'; have := Option.some.inj e'; omega
/-- What is put behind what is apart already. -/
def AddPost (B : Nat) (w : World) (v : Value) (l : List Int) (e : Ending) (w' : World) : Prop := e = .returned (.tuple #[]) ∧ ∃ v', Spt B w' v' l ∧ Fr B w v w' v'

set_option maxHeartbeats 2000000 in
theorem add_free (B : Nat) (c : Int) (l : List Int) (v : Value) (w : World) (hs : Spt B w v l) (hp : pts c = []) (hn : l.length + 1 ≤ 1099511627776) :
    Calls Tryz.prog 63 #[.pointer (some ⟨B, 0, none⟩), .int .i32 c] w (AddPost B w v (l ++ [c])) := by
  obtain ⟨i0, hi0, hz0, hz1, hz2⟩ := info_parts info21
  have HP := Lib.hid (parts_give c 0 w (by rw [hp]; rfl))
  rw [hp] at HP
  obtain ⟨k, hk⟩ : ∃ k, l.length = k := ⟨_, rfl⟩
  obtain ⟨A, cap, rfl, _, _, _⟩ := hs.2.rdn hk
  have hpt := part_is hs.1
  have HS := Lib.hid hs
  have HK := Lib.hid hk
  clear hs hp hk
  go_enter Tryz.func63, Tryz.ntmps63
  go_wp2_with fail
  with_reducible refine HP.out.mono ?_
  rintro e w1 ⟨v1, rfl, _, hown1, hb1⟩
  obtain ⟨A1, cap1, rfl, _, _, _⟩ := hown1.rdn (n := 0) rfl
  have hs1 := HS.out.bel hb1
  have c1 := hs1.cell
  have HR := Lib.hid (rd_lit_at (w := w1) (cs := #[.int .i32 c]) (t := 21) (k := .i32) (l := [c]) rfl rfl)
  have hs2 := hs1.bel ((Bel.refl w1).alloc (.cells #[.int .i32 c] 21))
  have HO := Lib.hid hs2.2
  have HS2 := Lib.hid hs2
  have HB1 := Lib.hid (show Bel w (w1.alloc (.cells #[.int .i32 c] 21)) from hb1.alloc _)
  have hsz : B + 1 ≤ (w1.alloc (.cells #[.int .i32 c] 21)).heap.size := hs2.lt
  have c2 : (w1.alloc (.cells #[.int .i32 c] 21)).cell? ⟨B, 0, none⟩ = some (.slice A k cap) := hs2.cell
  clear hpt hown1 hb1 hs1 HP hs2
  go_wp2_with (first | (at_builtin; refine wpl_append_o (by rfl) (.tmp 20) (.tmp 22) 22 rfl Tryz.underlying22 hi0 hz0 hz1 hz2 rfl (by omega) HO.out rfl HR.out rfl rfl (by simpa using hn) hsz ?_; intro v2 w2 hown2 hg2 hv2; obtain ⟨A2, cap2, rfl, -, -, -⟩ := hown2.rdn (n := k + 1) (by rw [List.length_append, HK.out]; rfl); have hblk := add_block HS2.out hg2; have c3 : w2.cell? ⟨B, 0, none⟩ = some (.slice A k cap) := (by simp [World.cell?, hblk]); have f3 : w2.frozen? ⟨B, 0, none⟩ = false := (by simp [World.frozen?, hblk])) | fail)
  go_loopw [28] (fun i wr => i = .int .i64 0 ∧ wr = w2.setCell ⟨B, 0, none⟩ (.slice A2 (k + 1) cap2)) (fun _ _ => 0)
  case atStart => exact ⟨rfl, rfl⟩
  case round =>
    obtain ⟨rfl, rfl⟩ := hrel
    have hF : Hid (∃ v', Spt B (w2.setCell ⟨B, 0, none⟩ (.slice A2 (k + 1) cap2)) v' (l ++ [c]) ∧ Fr B w (.slice A k cap) (w2.setCell ⟨B, 0, none⟩ (.slice A2 (k + 1) cap2)) v') := Lib.hid ⟨_, ⟨set_block hblk _, own_set hown2 (by omega)⟩, (Fr.bel _ HB1.out).trans (add_frame HS2.out hg2 hv2 _)⟩
    clear hblk c3 f3 hown2 hg2 hv2 c1 c2 hsz HO HR HS2 HB1 HS
    go_wp2
    go_end0
    exact ⟨rfl, hF.out⟩

def AddRel (B : Nat) (w1 : World) (v : Value) (l ps : List Int) (n : Nat) (i : Value) (w : World) : Prop :=
  ∃ k : Nat, i = .int .i64 k ∧ k ≤ n ∧ Hid (∃ v', Spt B w v' (l ++ apL (ps.take k)) ∧ Fr B w1 v w v')
set_option maxHeartbeats 2000000 in
theorem add_split (B n : Nat) (c : Int) (l ps : List Int) (v : Value) (w : World) (hs : Spt B w v l) (hps : pts c = ps) (hlen : ps.length = n) (hn0 : 0 < n) (hn3 : n ≤ 1000)
    (IH : ∀ p ∈ ps, ∀ l v w, Spt B w v l → l.length + (ap p).length ≤ 1099511627776 → Calls Tryz.prog 63 #[.pointer (some ⟨B, 0, none⟩), .int .i32 p] w (AddPost B w v (l ++ ap p)))
    (hn : l.length + (apL ps).length ≤ 1099511627776) :
    Calls Tryz.prog 63 #[.pointer (some ⟨B, 0, none⟩), .int .i32 c] w (AddPost B w v (l ++ apL ps)) := by
  have HP := Lib.hid (parts_give c n w (by rw [hps]; exact hlen))
  rw [hps] at HP
  have hpt := part_is hs.1
  have HS := Lib.hid hs
  have HIH := Lib.hid IH
  have HL := Lib.hid hlen
  clear hs hps IH hlen
  go_enter Tryz.func63, Tryz.ntmps63
  go_wp2_with fail
  with_reducible refine HP.out.mono ?_
  rintro e w1 ⟨v1, rfl, hl1, hown1, hb1⟩
  obtain ⟨A1, cap1, rfl, _, hrd, _⟩ := hown1.rdn hl1
  obtain ⟨G, off, rfl, _, _⟩ := hrd.isSome (by omega)
  have hG := own_block hown1 (g := G) rfl
  have hGB : G ≠ B := by have := HS.out.lt; omega
  have hGv : v.ownBlock ≠ some G := fun e => by have := (own_block HS.out.2 e).2; omega
  have HRD := Lib.hid hrd
  have HB1 := Lib.hid hb1
  have HGG : Hid (G ≠ B ∧ v.ownBlock ≠ some G) := Lib.hid ⟨hGB, hGv⟩
  have HS1 := Lib.hid (HS.out.bel hb1)
  have q0 : ((n : Int) == 0) = false := by simp; omega
  clear hpt hl1 hown1 hb1 hrd hG hGB hGv HP
  go_wp2
  go_loopw [28] (fun i wr => AddRel B w1 v l ps n i wr) (fun i _ => n - (intOf i).toNat)
  case atStart => exact ⟨0, rfl, Nat.zero_le _, Lib.hid ⟨v, by simpa [apL] using HS1.out, Fr.refl _ _ _⟩⟩
  case round =>
    obtain ⟨k, rfl, hk, HK⟩ := hrel
    by_cases hlt : k < n
    · obtain ⟨p, hp⟩ : ∃ p, ps[k]? = some p := ⟨ps[k]'(by rw [HL.out]; exact hlt), by simp⟩
      obtain ⟨v', hs', hf'⟩ := HK.out
      have hrd' := hf'.rd HRD.out (by intro a e; cases e; exact HGG.out.1) (by intro a e; cases e; exact HGG.out.2)
      have hc := hrd'.at hp
      have hap : apL (ps.take (k + 1)) = apL (ps.take k) ++ ap p := by rw [List.take_add_one, hp, Option.toList_some, apL_append, apL_cons, apL_nil, List.append_nil]
      have hbnd : (l ++ apL (ps.take k)).length + (ap p).length ≤ 1099511627776 := by
        have h1 : apL ps = apL (ps.take (k + 1)) ++ apL (ps.drop (k + 1)) := by rw [← apL_append, List.take_append_drop]
        have h2 := congrArg List.length h1
        rw [hap] at h2
        simp only [List.length_append] at h2 ⊢
        omega
      have HC := Lib.hid (HIH.out p (List.mem_of_getElem? hp) _ v' wr hs' hbnd)
      have HV : Hid (∀ w' v'', Spt B w' v'' (l ++ apL (ps.take k) ++ ap p) → Fr B wr v' w' v'' → AddRel B w1 v l ps n (.int .i64 ((k : Int) + 1)) w') := Lib.hid fun w' v'' h1 h2 =>
        ⟨k + 1, by go_num, by omega, Lib.hid ⟨v'', by rw [hap, ← List.append_assoc]; exact h1, hf'.trans h2⟩⟩
      have q1 : (0 : Int) ≤ (k : Int) := by omega
      have q2 : (k : Int) < (n : Int) := by omega
      clear hp hs' hf' hrd' hap hbnd HK
      go_wp2_with fail
      with_reducible refine HC.out.mono ?_
      rintro e w2 ⟨rfl, v'', h1, h2⟩
      have HW := Lib.hid (HV.out w2 v'' h1 h2)
      clear h1 h2 HC HV
      go_wp2
      go_roundw
      case rel => exact HW.out
      case measure => simp [intOf]; omega
    · have hF : Hid (∃ v', Spt B wr v' (l ++ apL ps) ∧ Fr B w v wr v') := Lib.hid (by
        obtain ⟨v', hs', hf'⟩ := HK.out
        rw [List.take_of_length_le (by rw [HL.out]; omega)] at hs'
        exact ⟨v', hs', (Fr.bel v HB1.out).trans hf'⟩)
      have q2 : ¬ (k : Int) < (n : Int) := by omega
      clear HK
      go_wp2
      go_end0
      exact ⟨rfl, hF.out⟩

theorem add_all (B : Nat) : ∀ (m : Nat) (c : Int), mu c ≤ m → ∀ (l : List Int) (v : Value) (w : World), Spt B w v l → l.length + (ap c).length ≤ 1099511627776 →
    Calls Tryz.prog 63 #[.pointer (some ⟨B, 0, none⟩), .int .i32 c] w (AddPost B w v (l ++ ap c)) := by
  intro m
  induction m with
  | zero =>
    intro c hc l v w hs hn
    have hp : pts c = [] := Classical.byContradiction fun h => by obtain ⟨k, hk⟩ := mu_not h; omega
    rw [ap_free hp] at hn ⊢
    exact add_free B c l v w hs hp hn
  | succ m ih =>
    intro c hc l v w hs hn
    by_cases hp : pts c = []
    · rw [ap_free hp] at hn ⊢
      exact add_free B c l v w hs hp hn
    · rw [ap_split hp] at hn ⊢
      have hl3 : (pts c).length ≤ 3 := by
        rcases pts_ways c with ⟨t, _, _, ⟨_, e⟩ | ⟨_, e⟩⟩ | ⟨e, _⟩ | ⟨e, _⟩
        · rw [e]; simp
        · rw [e]; simp
        · rw [e]; exact (parts_len c).1
        · rw [e]; simp
      exact add_split B _ c l (pts c) v w hs rfl rfl (List.length_pos_iff.2 hp) (by omega) (fun p hpm l v w h1 h2 => ih p (by have := mu_lt hpm; omega) l v w h1 h2) hn
theorem add_is (B : Nat) (c : Int) (l : List Int) (v : Value) (w : World) (hs : Spt B w v l) (hn : l.length + (ap c).length ≤ 1099511627776) :
    Calls Tryz.prog 63 #[.pointer (some ⟨B, 0, none⟩), .int .i32 c] w (AddPost B w v (l ++ ap c)) := add_all B (mu c) c (Nat.le_refl _) l v w hs hn
end Go.Proofs.YtipigfgnpfhdbaaGreatDoor.F
namespace Go.Proofs.YtipigfgnpfhdbaaGreatDoor.F
open Go.RowKit U
set_option linter.unusedVariables false

def Quiet (w : World) (b : Bool) (e : Ending) (w' : World) : Prop := e = .returned (.bool b) ∧ ∃ m, w' = w.drewN m

def SameRel (W : World) (xs ys : List Int) (i : Value) (w : World) : Prop :=
  ∃ k m : Nat, i = .int .i64 k ∧ k ≤ xs.length ∧ w = W.drewN m ∧ xs.take k = ys.take k

theorem take_more {xs ys : List Int} {k : Nat} {x : Int} (h : xs.take k = ys.take k) (hx : xs[k]? = some x) (hy : ys[k]? = some x) : xs.take (k + 1) = ys.take (k + 1) := by
  rw [List.take_add_one, List.take_add_one, h, hx, hy]

set_option maxHeartbeats 1000000 in
theorem runes_any (A B : Option Addr) (n m c d : Nat) (xs ys : List Int) (B1 B2 : Nat) (w : World) (hA : Rd w B1 .i32 A xs) (hB : Rd w B2 .i32 B ys) (hn : xs.length = n) (hm : ys.length = m) (hn' : n ≤ 1099511627776) :
    Calls Tryz.prog 14 #[.slice A n c, .slice B m d] w (Quiet w (decide (xs = ys))) := by
  have HN := Lib.hid hn
  have HM := Lib.hid hm
  have HA := Lib.hid hA
  have HB := Lib.hid hB
  clear hn hm hA hB
  by_cases hnm : n = m
  · subst hnm
    have hq : ((n : Int) != (n : Int)) = false := by simp
    go_enter Tryz.func14, Tryz.ntmps14
    go_wp2
    go_loopw [5] (fun i wr => SameRel w xs ys i wr) (fun i _ => n - (intOf i).toNat)
    case atStart => exact ⟨0, 0, rfl, Nat.zero_le _, rfl, by simp⟩
    case round =>
      obtain ⟨k, q, rfl, hk, rfl, heq⟩ := hrel
      rw [HN.out] at hk
      have HE := Lib.hid heq
      clear heq
      by_cases hlt : k < n
      · obtain ⟨x, hx⟩ : ∃ x, xs[k]? = some x := ⟨xs[k]'(by rw [HN.out]; exact hlt), by simp⟩
        obtain ⟨y, hy⟩ : ∃ y, ys[k]? = some y := ⟨ys[k]'(by rw [HM.out]; exact hlt), by simp⟩
        obtain ⟨g1, o1, rfl, hg1, hc1⟩ := HA.out k x hx
        obtain ⟨g2, o2, rfl, hg2, hc2⟩ := HB.out k y hy
        have HX := Lib.hid hx
        have HY := Lib.hid hy
        clear hx hy
        have hi1 : (0 : Int) ≤ (k : Int) := by omega
        have hi2 : (k : Int) < (n : Int) := by omega
        by_cases hxy : x = y
        · subst hxy
          have hne : (x != x) = false := by simp
          go_wp2
          go_quiet (fail)
          go_wp2
          go_roundw
          case rel => exact ⟨k + 1, _, by go_num, by rw [HN.out]; omega, rfl, take_more HE.out HX.out HY.out⟩
          case measure => simp [intOf]; omega
        · have hne : (x != y) = true := by simpa using hxy
          have hd : decide (xs = ys) = false := by
            simp only [decide_eq_false_iff_not]
            intro e
            have h1 := HX.out
            rw [e, HY.out] at h1
            exact hxy (by simpa using h1.symm)
          have HD := Lib.hid hd
          clear hd
          go_wp2
          go_quiet (fail)
          go_wp2
          go_ret
          exact ⟨by rw [HD.out]; rfl, _, World.drewN_drewN _ _ _⟩
      · have hd : decide (xs = ys) = true := by
          simp only [decide_eq_true_eq]
          have h1 := HE.out
          obtain rfl : k = n := by omega
          rwa [List.take_of_length_le (by rw [HN.out]; omega), List.take_of_length_le (by rw [HM.out]; omega)] at h1
        have HD := Lib.hid hd
        clear hd
        go_wp2
        go_ret
        exact ⟨by rw [HD.out]; rfl, _, rfl⟩
  · have hq : ((n : Int) != (m : Int)) = true := by simp; omega
    have hd : decide (xs = ys) = false := by
      simp only [decide_eq_false_iff_not]
      intro e
      have h1 := HN.out
      rw [e, HM.out] at h1
      exact hnm h1.symm
    have HD := Lib.hid hd
    clear hd
    go_enter Tryz.func14, Tryz.ntmps14
    go_wp2
    go_ret
    exact ⟨by rw [HD.out]; rfl, 0, rfl⟩

theorem runes_is (A B : Option Addr) (n m c d : Nat) (xs ys : List Int) (B1 B2 : Nat) (b : Bool) (w : World) (hA : Rd w B1 .i32 A xs) (hB : Rd w B2 .i32 B ys) (hn : xs.length = n) (hm : ys.length = m) (hn' : n ≤ 1099511627776) (hb : decide (xs = ys) = b) :
    Calls Tryz.prog 14 #[.slice A n c, .slice B m d] w (Quiet w b) := by
  subst hb; exact runes_any A B n m c d xs ys B1 B2 w hA hB hn hm hn'

end Go.Proofs.YtipigfgnpfhdbaaGreatDoor.F
namespace Go.Proofs.YtipigfgnpfhdbaaGreatDoor.F
open Go.RowKit U
set_option linter.unusedVariables false

def SwRel (base : Nat) (w0 : World) (g off : Nat) (p x m y q : List Int) (n : Nat) (i : Value) (w : World) : Prop :=
  ∃ k : Nat, i = .int .i64 k ∧ k ≤ n ∧ Hid (∃ x1 x2 y1 y2, x = x1 ++ x2 ∧ y = y1 ++ y2 ∧ x1.length = k ∧ y1.length = k ∧ In base w0 g off (p ++ (y1 ++ (x2 ++ (m ++ (x1 ++ (y2 ++ q)))))) w)
/-- The row as a change leaves it. -/
def Done (base : Nat) (w0 : World) (g off : Nat) (l : List Int) (e : Ending) (w' : World) : Prop := e = .returned (.tuple #[]) ∧ In base w0 g off l w'

set_option maxRecDepth 1000000 in
set_option maxHeartbeats 8000000 in
theorem swapRange_is (base g off cap a b n N : Nat) (p x m y q : List Int) (w0 w : World) (F : Value) (hI : In base w0 g off (p ++ (x ++ (m ++ (y ++ q)))) w) (hp : p.length = a) (hb : a + x.length + m.length = b) (hx : x.length = n) (hy : y.length = n)
    (hN : (p ++ (x ++ (m ++ (y ++ q)))).length = N) (hs : N ≤ 1099511627776) :
    Calls Tryz.prog 174 #[.slice (some ⟨g, off, none⟩) N cap, .int .i64 a, .int .i64 b, .int .i64 n, F] w (Done base w0 g off (p ++ (y ++ (m ++ (x ++ q))))) := by
  have HI := Lib.hid hI
  have HP := Lib.hid hp
  have HB := Lib.hid hb
  have HX := Lib.hid hx
  have HY := Lib.hid hy
  have hN' : a + n + m.length + n + q.length = N := by simp at hN; omega
  have HN := Lib.hid hN'
  clear hI hp hb hx hy hN hN'
  go_enter Tryz.func174, Tryz.ntmps174
  go_wp2
  go_loopw [10] (fun i wr => SwRel base w0 g off p x m y q n i wr) (fun i _ => n - (intOf i).toNat)
  case atStart => exact ⟨0, rfl, Nat.zero_le _, Lib.hid ⟨[], x, [], y, rfl, rfl, rfl, rfl, HI.out⟩⟩
  case round =>
    clear HI
    obtain ⟨k, rfl, hk, HR⟩ := hrel
    by_cases hlt : k < n
    · obtain ⟨x1, x2, y1, y2, e1, e2, l1, l2, hin⟩ := HR.out
      have hxl := HX.out
      have hyl := HY.out
      have hbb := HB.out
      have hNN := HN.out
      have hpp := HP.out
      rw [e1, List.length_append] at hxl
      rw [e2, List.length_append] at hyl
      obtain ⟨u, x3, rfl⟩ : ∃ u t, x2 = u :: t := by
        cases x2 with
        | nil => simp at hxl; omega
        | cons u t => exact ⟨u, t, rfl⟩
      obtain ⟨v, y3, rfl⟩ : ∃ u t, y2 = u :: t := by
        cases y2 with
        | nil => simp at hyl; omega
        | cons u t => exact ⟨u, t, rfl⟩
      have hxl' := HX.out
      simp only [List.length_cons] at hxl hyl
      obtain ⟨i1, hi1⟩ : ∃ i1, a + k = i1 := ⟨_, rfl⟩
      obtain ⟨j1, hj1⟩ : ∃ j1, b + k = j1 := ⟨_, rfl⟩
      have hA : (p ++ y1).length = i1 := by rw [List.length_append]; omega
      have hJ : i1 + 1 + (x3 ++ (m ++ x1)).length = j1 := by simp only [List.length_append]; omega
      have eD : p ++ (y1 ++ (u :: x3 ++ (m ++ (x1 ++ (v :: y3 ++ q))))) = (p ++ y1) ++ u :: ((x3 ++ (m ++ x1)) ++ v :: (y3 ++ q)) := by simp
      rw [eD] at hin
      have g1 := at_mid (p ++ y1) u ((x3 ++ (m ++ x1)) ++ v :: (y3 ++ q)) hA
      have g2 := at_mid2 (p ++ y1) u (x3 ++ (m ++ x1)) v (y3 ++ q) hA hJ
      have hne : i1 ≠ j1 := by omega
      have hsw := hin.swap g1 g2 hne (swap_mid (p ++ y1) u v (x3 ++ (m ++ x1)) (y3 ++ q) hA hJ)
      have S3 : Hid (In base w0 g off (p ++ ((y1 ++ [v]) ++ (x3 ++ (m ++ ((x1 ++ [u]) ++ (y3 ++ q)))))) ((wr.setCell ⟨g, off + i1, none⟩ (.int .i32 v)).setCell ⟨g, off + j1, none⟩ (.int .i32 u)).drew) := Lib.hid (by
        have eE : p ++ ((y1 ++ [v]) ++ (x3 ++ (m ++ ((x1 ++ [u]) ++ (y3 ++ q))))) = (p ++ y1) ++ v :: ((x3 ++ (m ++ x1)) ++ u :: (y3 ++ q)) := by simp
        rw [eE]; exact hsw)
      have c1 := hin.cell g1
      have c2 := hin.cell g2
      have f1 := hin.free g1
      have f2 := hin.free g2
      have c3 := hin.c2 g2 hne (.int .i32 v)
      have HE : Hid (x = (x1 ++ [u]) ++ x3 ∧ y = (y1 ++ [v]) ++ y3 ∧ (x1 ++ [u]).length = k + 1 ∧ (y1 ++ [v]).length = k + 1) := Lib.hid ⟨by rw [e1]; simp, by rw [e2]; simp, by simp [l1], by simp [l2]⟩
      have ea : ((a : Int) + (k : Int)).toNat = i1 := by omega
      have pa : (0 : Int) ≤ (a : Int) + (k : Int) := by omega
      have ba : (a : Int) + (k : Int) < (N : Int) := by omega
      have ra : IntKind.i64.wrap ((a : Int) + (k : Int)) = (a : Int) + (k : Int) := by rw [IntKind.wrap_i64]; omega
      have ec : ((b : Int) + (k : Int)).toNat = j1 := by omega
      have pc : (0 : Int) ≤ (b : Int) + (k : Int) := by omega
      have bc : (b : Int) + (k : Int) < (N : Int) := by omega
      have rc : IntKind.i64.wrap ((b : Int) + (k : Int)) = (b : Int) + (k : Int) := by rw [IntKind.wrap_i64]; omega
      have hkn : (k : Int) < (n : Int) := by omega
      clear hsw hin g1 g2 hA hJ eD e1 e2 l1 l2 hxl hyl hbb hNN hpp hxl' HR hi1 hj1 hne
      go_wp2_with fail
      go_region
      clear c1 c2 c3 f1 f2
      generalize ((wr.setCell ⟨g, off + i1, none⟩ (.int .i32 v)).setCell ⟨g, off + j1, none⟩ (.int .i32 u)).drew = w3 at S3 ⊢
      clear ea ec
      go_wp2
      go_roundw
      case rel => exact ⟨k + 1, by go_num, by omega, Lib.hid ⟨_, _, _, _, HE.out.1, HE.out.2.1, HE.out.2.2.1, HE.out.2.2.2, S3.out⟩⟩
      case measure => simp [intOf]; omega
    · obtain rfl : k = n := by omega
      have hfin : In base w0 g off (p ++ (y ++ (m ++ (x ++ q)))) wr := by
        obtain ⟨x1, x2, y1, y2, e1, e2, l1, l2, hin⟩ := HR.out
        have hxl := HX.out
        have hyl := HY.out
        rw [e1, List.length_append] at hxl
        rw [e2, List.length_append] at hyl
        obtain rfl : x2 = [] := List.eq_nil_of_length_eq_zero (by omega)
        obtain rfl : y2 = [] := List.eq_nil_of_length_eq_zero (by omega)
        rw [e1, e2]
        simpa using hin
      have HF := Lib.hid hfin
      clear hfin HR
      go_wp2
      go_end0
      exact ⟨rfl, HF.out⟩
end Go.Proofs.YtipigfgnpfhdbaaGreatDoor.F
namespace Go.Proofs.YtipigfgnpfhdbaaGreatDoor.F
open Go.RowKit U
set_option linter.unusedVariables false

/-- The row with a run of it sorted. -/
def Sorted (base : Nat) (w0 : World) (g off : Nat) (p s q : List Int) (e : Ending) (w' : World) : Prop := e = .returned (.tuple #[]) ∧ ∃ s', St s s' ∧ Sd s' ∧ In base w0 g off (p ++ (s' ++ q)) w'

def InsOut (base : Nat) (w0 : World) (g off a b : Nat) (p s q : List Int) (i : Value) (w : World) : Prop :=
  ∃ k : Nat, i = .int .i64 k ∧ a < k ∧ k ≤ b ∧ Hid (∃ t r, a + t.length = k ∧ Sd t ∧ St s (t ++ r) ∧ In base w0 g off (p ++ ((t ++ r) ++ q)) w)
def InsIn (base : Nat) (w0 : World) (g off a : Nat) (p s q t r : List Int) (v : Int) (j : Value) (w : World) : Prop :=
  ∃ k : Nat, j = .int .i64 k ∧ a ≤ k ∧ k ≤ a + t.length ∧ Hid (∃ t1 t2, a + t1.length = k ∧ t = t1 ++ t2 ∧ (∀ u ∈ t2, cls v < cls u) ∧ In base w0 g off (p ++ ((t1 ++ v :: (t2 ++ r)) ++ q)) w)

/-- A mark put among sorted ones: behind those that are not greater, ahead of those that are. -/
theorem ins_done {t1 t2 : List Int} {v : Int} (h : Sd (t1 ++ t2)) (h2 : ∀ u ∈ t2, cls v < cls u) (h1 : ∀ u, t1.getLast? = some u → cls u ≤ cls v) : Sd (t1 ++ v :: t2) := by
  have hs := sd_append.1 h
  refine sd_append.2 ⟨hs.1, ?_, ?_⟩
  · exact List.pairwise_cons.2 ⟨fun u hu => Int.le_of_lt (h2 u hu), hs.2.1⟩
  · intro x hx y hy
    rcases List.mem_cons.1 hy with rfl | hy
    · rcases List.eq_nil_or_concat t1 with rfl | ⟨t, u, rfl⟩
      · simp at hx
      · have hu := h1 u (by simp)
        rw [List.concat_eq_append] at hx hs
        rcases List.mem_append.1 hx with hx | hx
        · have := (sd_append.1 hs.1).2.2 x hx u (by simp)
          omega
        · simp at hx
          subst hx
          exact hu
    · exact hs.2.2 x hx y hy
theorem ins_st {t1 t2 r : List Int} {v : Int} (hM : Mk (t1 ++ t2 ++ v :: r)) (h2 : ∀ u ∈ t2, cls v < cls u) : St (t1 ++ t2 ++ v :: r) (t1 ++ v :: (t2 ++ r)) := by
  have h1 : St (t2 ++ [v]) ([v] ++ t2) := St.rot (fun u hu => hM u (by simp [hu])) (fun u hu => hM u (by simp at hu; simp [hu])) (fun u hu w hw => by
    simp at hw
    subst hw
    have := h2 u hu
    omega)
  have h3 := (St.refl t1).append (h1.append (St.refl r))
  simpa using h3

set_option maxRecDepth 1000000 in
set_option maxHeartbeats 8000000 in
theorem ins_is (base g off cap a b N : Nat) (p s q : List Int) (w0 w : World) (hI : In base w0 g off (p ++ (s ++ q)) w) (hp : p.length = a) (hb : a + s.length = b) (hM : Mk s)
    (hN : (p ++ (s ++ q)).length = N) (hsz : N ≤ 1099511627776) :
    Calls Tryz.prog 148 #[.slice (some ⟨g, off, none⟩) N cap, .int .i64 a, .int .i64 b, .func (.func 104) #[] #[]] w (Sorted base w0 g off p s q) := by
  have hN' : a + s.length + q.length = N := by simp at hN; omega
  have eg := enters_18
  have hmix := mixed
  have HI := Lib.hid hI
  have HP := Lib.hid hp
  have HM := Lib.hid hM
  have HB := Lib.hid hb
  have HN := Lib.hid hN'
  have hbN : b ≤ N := by omega
  clear hI hp hM hN hN'
  by_cases hs0 : s = []
  · have hab : b = a := by rw [hs0] at hb; simp at hb; omega
    have hF : Hid (∃ s', St s s' ∧ Sd s' ∧ In base w0 g off (p ++ (s' ++ q)) w) := Lib.hid ⟨s, St.refl _, by rw [hs0]; exact sd_nil, HI.out⟩
    subst hab
    clear hb HI hs0
    have q1 : ¬ (b : Int) + 1 < (b : Int) := by omega
    go_enter Tryz.func148, Tryz.ntmps148
    go_wp2
    go_loopw [8] (fun i wr => i = .int .i64 ((b : Int) + 1) ∧ wr = w) (fun i _ => 0)
    case atStart => exact ⟨rfl, rfl⟩
    case round =>
      obtain ⟨rfl, rfl⟩ := hrel
      go_wp2
      go_end0
      exact ⟨rfl, hF.out⟩
  · have hab : a < b := by
      have : 0 < s.length := List.length_pos_iff.2 hs0
      omega
    have HS := Lib.hid hs0
    clear hs0 hb
    go_enter Tryz.func148, Tryz.ntmps148
    go_wp2
    go_loopw [8] (fun i wr => InsOut base w0 g off a b p s q i wr) (fun i _ => b - (intOf i).toNat)
    case atStart =>
      refine ⟨a + 1, by go_num, by omega, by omega, Lib.hid ?_⟩
      cases s with
      | nil => exact absurd rfl HS.out
      | cons c s => exact ⟨[c], s, rfl, sd_one c, St.refl _, HI.out⟩
    case round =>
      clear HI
      obtain ⟨k, rfl, hak, hkb, HO⟩ := hrel
      by_cases hlt : k < b
      · obtain ⟨t, v, r, ht, hsd, hst, hin⟩ : ∃ t v r, a + t.length = k ∧ Sd t ∧ St s (t ++ v :: r) ∧ In base w0 g off (p ++ ((t ++ v :: r) ++ q)) wr := by
          obtain ⟨t, r, ht, hsd, hst, hin⟩ := HO.out
          cases r with
          | nil =>
            have h5 := hst.length
            have h6 := HB.out
            rw [List.length_append, List.length_nil] at h5
            omega
          | cons v r => exact ⟨t, v, r, ht, hsd, hst, hin⟩
        have HIN := Lib.hid hin
        have HT := Lib.hid ht
        have HSD := Lib.hid hsd
        have HST := Lib.hid hst
        have hkz : (k : Int) < (b : Int) := by omega
        clear hin ht hsd hst HO
        generalize wr = wo at HIN ⊢
        clear wr
        go_wp2
        go_loopw [9] (fun j wr => InsIn base w0 g off a p s q t r v j wr) (fun j _ => (intOf j).toNat)
        case atStart => exact ⟨k, rfl, by omega, by have := HT.out; omega, Lib.hid ⟨t, [], HT.out, by simp, by simp, by simpa using HIN.out⟩⟩
        case round =>
          clear HIN
          obtain ⟨j, rfl, haj, hjk, HJ⟩ := hrel
          rw [HT.out] at hjk
          -- what the outer round's end wants
          have OUT : Hid (∀ w', (∃ t1 t2, a + t1.length = j ∧ t = t1 ++ t2 ∧ (∀ u ∈ t2, cls v < cls u) ∧ (∀ u, t1.getLast? = some u → cls u ≤ cls v) ∧ In base w0 g off (p ++ ((t1 ++ v :: (t2 ++ r)) ++ q)) w') → InsOut base w0 g off a b p s q (.int .i64 ((k : Int) + 1)) w') := Lib.hid fun w' ⟨t1, t2, h1, h2, h3, h4, h5⟩ => by
            have hM' : Mk (t1 ++ t2 ++ v :: r) := by rw [← h2]; exact HM.out.st HST.out
            refine ⟨k + 1, by go_num, by omega, by omega, Lib.hid ⟨t1 ++ v :: t2, r, ?_, ins_done (by rw [← h2]; exact HSD.out) h3 h4, ?_, by simpa using h5⟩⟩
            · have := HT.out
              rw [h2] at this
              simp at this ⊢
              omega
            · refine HST.out.trans ?_
              rw [h2]
              have := ins_st hM' h3
              simpa using this
          by_cases hja : a < j
          · obtain ⟨jp, hjp⟩ : ∃ jp, jp + 1 = j := ⟨j - 1, by omega⟩
            obtain ⟨t1, u, t2, h1, h2, h3, hin⟩ : ∃ t1 u t2, a + t1.length = jp ∧ t = t1 ++ u :: t2 ∧ (∀ u ∈ t2, cls v < cls u) ∧ In base w0 g off ((p ++ t1) ++ u :: ([] ++ v :: ((t2 ++ r) ++ q))) wr := by
              obtain ⟨t1, t2, h1, h2, h3, hin⟩ := HJ.out
              rcases List.eq_nil_or_concat t1 with rfl | ⟨t0, u, rfl⟩
              · simp at h1; omega
              · rw [List.concat_eq_append] at h1 h2 hin
                refine ⟨t0, u, t2, by simp at h1; omega, by rw [h2]; simp, h3, by simpa using hin⟩
            clear HJ
            have hpp := HP.out
            have hA : (p ++ t1).length = jp := by rw [List.length_append]; omega
            have g1 := at_mid (p ++ t1) u ([] ++ v :: ((t2 ++ r) ++ q)) hA
            have g2 := at_mid2 (p ++ t1) u [] v ((t2 ++ r) ++ q) hA (j := j) (by simp; omega)
            have hne : j ≠ jp := by omega
            have zj : (j : Int) = (jp : Int) + 1 := by omega
            have hjaz : (a : Int) < (jp : Int) + 1 := by omega
            have hjad : decide ((jp : Int) + 1 > (a : Int)) = true := decide_eq_true (by omega)
            have ea : ((jp : Int) + 1).toNat = j := by omega
            have pa : (0 : Int) ≤ (jp : Int) + 1 := by omega
            have ba : (jp : Int) + 1 < (N : Int) := by omega
            have ra : IntKind.i64.wrap ((jp : Int) + 1) = (jp : Int) + 1 := by rw [IntKind.wrap_i64]; omega
            have ec : ((jp : Int)).toNat = jp := by omega
            have pc : (0 : Int) ≤ (jp : Int) := by omega
            have bc : (jp : Int) < (N : Int) := by omega
            have rc : IntKind.i64.wrap ((jp : Int)) = (jp : Int) := by rw [IntKind.wrap_i64]; omega
            have la := hin.cells g2
            have lb := hin.cells g1
            obtain ⟨c, hc⟩ : ∃ c, cmpI (cls v) (cls u) = c := ⟨_, rfl⟩
            have hcc := hin.comp v u c hc
            have HIN := Lib.hid hin
            have HG1 := Lib.hid g1
            have HG2 := Lib.hid g2
            by_cases hvu : cls v < cls u
            · have hd : c < 0 := by rw [← hc]; exact cmpI_neg.2 hvu
              have hdd : decide (c < 0) = true := decide_eq_true hd
              have HSW : Hid (∀ w', In base w0 g off ((p ++ t1) ++ u :: ([] ++ v :: ((t2 ++ r) ++ q))) w' → In base w0 g off ((p ++ t1) ++ v :: ([] ++ u :: ((t2 ++ r) ++ q))) ((w'.setCell ⟨g, off + j, none⟩ (.int .i32 u)).setCell ⟨g, off + jp, none⟩ (.int .i32 v)).drew) := Lib.hid fun w' hi => by
                refine hi.swap HG2.out HG1.out hne fun k => ?_
                rw [swap_mid (p ++ t1) u v [] ((t2 ++ r) ++ q) hA (j := j) (by simp; omega) k]
                by_cases e1 : k = jp
                · rw [if_pos e1, if_neg (by omega), if_pos e1]
                · rw [if_neg e1]
                  by_cases e2 : k = j
                  · rw [if_pos e2, if_pos e2]
                  · rw [if_neg e2, if_neg e2, if_neg e1]
              have HV : Hid (∀ w', In base w0 g off ((p ++ t1) ++ v :: ([] ++ u :: ((t2 ++ r) ++ q))) w' → InsIn base w0 g off a p s q t r v (.int .i64 (jp : Int)) w') := Lib.hid fun w' hi =>
                ⟨jp, rfl, by omega, by have := HT.out; omega, Lib.hid ⟨t1, u :: t2, h1, h2, fun z hz => by rcases List.mem_cons.1 hz with rfl | hz; exact hvu; exact h3 z hz, by simpa using hi⟩⟩
              clear hin g1 g2 hA h1 h2 h3 hc hvu hpp OUT
              rw [zj]
              clear zj
              go_wp2_with fail
              go_quiet_grown (first | (go_at_fn 104; refine Calls.grown_of (hcc _ _)))
              have S2 : Hid (In base w0 g off ((p ++ t1) ++ u :: ([] ++ v :: ((t2 ++ r) ++ q))) (Sort.grow (wr.drewN nq) osq)) := Lib.hid (HIN.out.gr ⟨nq, osq, rfl⟩)
              clear la lb hcc HIN
              generalize Sort.grow (wr.drewN nq) osq = w2 at S2 ⊢
              have c1 := S2.out.cell HG2.out
              have c2 := S2.out.cell HG1.out
              have f1 := S2.out.free HG2.out
              have f2 := S2.out.free HG1.out
              have c3 := S2.out.c2 HG1.out hne (.int .i32 u)
              have S3 : Hid (In base w0 g off ((p ++ t1) ++ v :: ([] ++ u :: ((t2 ++ r) ++ q))) ((w2.setCell ⟨g, off + j, none⟩ (.int .i32 u)).setCell ⟨g, off + jp, none⟩ (.int .i32 v)).drew) := Lib.hid (HSW.out _ S2.out)
              clear S2 HSW HG1 HG2 hne
              go_wp2_with fail
              go_region
              clear c1 c2 c3 f1 f2
              generalize ((w2.setCell ⟨g, off + j, none⟩ (.int .i32 u)).setCell ⟨g, off + jp, none⟩ (.int .i32 v)).drew = w3 at S3 ⊢
              clear ea ec
              go_wp2
              go_roundw
              case rel => exact HV.out _ S3.out
              case measure => simp [intOf]
            · have hd : ¬ c < 0 := by rw [← hc]; exact fun h => hvu (cmpI_neg.1 h)
              have hdd : decide (c < 0) = false := decide_eq_false hd
              have HV : Hid (∀ w', In base w0 g off ((p ++ t1) ++ u :: ([] ++ v :: ((t2 ++ r) ++ q))) w' → InsOut base w0 g off a b p s q (.int .i64 ((k : Int) + 1)) w') := Lib.hid fun w' hi =>
                OUT.out w' ⟨t1 ++ [u], t2, by simp; omega, by rw [h2]; simp, h3, fun z hz => by simp at hz; subst hz; omega, by simpa using hi⟩
              clear hin g1 g2 hA h1 h2 h3 hc hvu hpp OUT
              rw [zj]
              clear zj
              go_wp2_with fail
              go_quiet_grown (first | (go_at_fn 104; refine Calls.grown_of (hcc _ _)))
              have S2 : Hid (In base w0 g off ((p ++ t1) ++ u :: ([] ++ v :: ((t2 ++ r) ++ q))) (Sort.grow (wr.drewN nq) osq)) := Lib.hid (HIN.out.gr ⟨nq, osq, rfl⟩)
              clear la lb hcc HIN
              generalize Sort.grow (wr.drewN nq) osq = w2 at S2 ⊢
              clear ea ec
              go_wp2
              go_roundw
              case rel => exact HV.out _ S2.out
              case measure => simp [intOf]; omega
          · obtain rfl : j = a := by omega
            have hjaz : decide ((j : Int) > (j : Int)) = false := decide_eq_false (by omega)
            have hjaz' : ¬ (j : Int) < (j : Int) := by omega
            have HV : Hid (InsOut base w0 g off j b p s q (.int .i64 ((k : Int) + 1)) wr.drew) := Lib.hid (OUT.out _ (by
              obtain ⟨t1, t2, h1, h2, h3, hin⟩ := HJ.out
              obtain rfl : t1 = [] := List.eq_nil_of_length_eq_zero (by omega)
              exact ⟨[], t2, h1, h2, h3, by simp, hin.by (Bel.refl _).drew⟩))
            clear HJ OUT
            go_wp2_with fail
            go_region
            generalize wr.drew = w2 at HV ⊢
            go_wp2
            go_roundw
            case rel => exact HV.out
            case measure => simp [intOf]; omega
      · have hF : Hid (∃ s', St s s' ∧ Sd s' ∧ In base w0 g off (p ++ (s' ++ q)) wr) := Lib.hid (by
          obtain ⟨t, r, ht, hsd, hst, hin⟩ := HO.out
          have h1 := hst.length
          have h2 := HB.out
          rw [List.length_append] at h1
          obtain rfl : r = [] := List.eq_nil_of_length_eq_zero (by omega)
          exact ⟨t, by simpa using hst, hsd, by simpa using hin⟩)
        have hltz : ¬ (k : Int) < (b : Int) := by omega
        clear HO
        go_wp2
        go_end0
        exact ⟨rfl, hF.out⟩
end Go.Proofs.YtipigfgnpfhdbaaGreatDoor.F
namespace Go.Proofs.YtipigfgnpfhdbaaGreatDoor.F
set_option linter.unusedVariables false

/-- The class of what stands at a place. -/
def kAt (l : List Int) (i : Nat) : Int := cls (l.getD i 0)
theorem kAt_is {l : List Int} {i : Nat} {z : Int} (h : l[i]? = some z) : kAt l i = cls z := by unfold kAt; simp [List.getD, h]
/-- A row: p, then x up to m, then y up to b. -/
def Lay (p x y : List Int) (a m b : Nat) : Prop := p.length = a ∧ a + x.length = m ∧ m + y.length = b
theorem Lay.atx {p x y q : List Int} {a m b : Nat} (h : Lay p x y a m b) {i : Nat} (h0 : a ≤ i) (h1 : i < m) : ∃ z, x[i - a]? = some z ∧ (p ++ (x ++ (y ++ q)))[i]? = some z := by
  obtain ⟨hp, hm, hb⟩ := h
  refine ⟨x[i - a]'(by omega), by simp, ?_⟩
  rw [List.getElem?_append_right (by omega), hp, List.getElem?_append_left (by omega)]
  simp
theorem Lay.aty {p x y q : List Int} {a m b : Nat} (h : Lay p x y a m b) {i : Nat} (h0 : m ≤ i) (h1 : i < b) : ∃ z, y[i - m]? = some z ∧ (p ++ (x ++ (y ++ q)))[i]? = some z := by
  obtain ⟨hp, hm, hb⟩ := h
  refine ⟨y[i - m]'(by omega), by simp, ?_⟩
  rw [List.getElem?_append_right (by omega), hp, List.getElem?_append_right (by omega), List.getElem?_append_left (by omega), show i - a - x.length = i - m by omega]
  simp
theorem Lay.kx {p x y q : List Int} {a m b : Nat} (h : Lay p x y a m b) (hx : Sd x) {i j : Nat} (h0 : a ≤ i) (h1 : i ≤ j) (h2 : j < m) : kAt (p ++ (x ++ (y ++ q))) i ≤ kAt (p ++ (x ++ (y ++ q))) j := by
  obtain ⟨z, hz, hz'⟩ := h.atx (q := q) h0 (by omega)
  obtain ⟨u, hu, hu'⟩ := h.atx (q := q) (i := j) (by omega) h2
  rw [kAt_is hz', kAt_is hu']
  exact hx.at hz hu (by omega)
theorem Lay.ky {p x y q : List Int} {a m b : Nat} (h : Lay p x y a m b) (hy : Sd y) {i j : Nat} (h0 : m ≤ i) (h1 : i ≤ j) (h2 : j < b) : kAt (p ++ (x ++ (y ++ q))) i ≤ kAt (p ++ (x ++ (y ++ q))) j := by
  obtain ⟨z, hz, hz'⟩ := h.aty (q := q) h0 (by omega)
  obtain ⟨u, hu, hu'⟩ := h.aty (q := q) (i := j) (by omega) h2
  rw [kAt_is hz', kAt_is hu']
  exact hy.at hz hu (by omega)
theorem Lay.memx {p x y q x1 x2 : List Int} {a m b : Nat} (h : Lay p x y a m b) (e : x = x1 ++ x2) {z : Int} : (z ∈ x1 → ∃ i, a ≤ i ∧ i < a + x1.length ∧ kAt (p ++ (x ++ (y ++ q))) i = cls z) ∧ (z ∈ x2 → ∃ i, a + x1.length ≤ i ∧ i < m ∧ kAt (p ++ (x ++ (y ++ q))) i = cls z) := by
  obtain ⟨hp, hm, hb⟩ := h
  constructor
  · intro hz
    obtain ⟨t, ht⟩ := List.getElem?_of_mem hz
    have hl := (List.getElem?_eq_some_iff.1 ht).1
    refine ⟨a + t, by omega, by omega, kAt_is ?_⟩
    rw [List.getElem?_append_right (by omega), hp, show a + t - a = t by omega, e, List.append_assoc, List.getElem?_append_left hl, ht]
  · intro hz
    obtain ⟨t, ht⟩ := List.getElem?_of_mem hz
    have hl := (List.getElem?_eq_some_iff.1 ht).1
    rw [e, List.length_append] at hm
    refine ⟨a + x1.length + t, by omega, by omega, kAt_is ?_⟩
    rw [List.getElem?_append_right (by omega), hp, e, List.append_assoc, List.getElem?_append_right (by omega), show a + x1.length + t - a - x1.length = t by omega, List.getElem?_append_left hl, ht]
theorem Lay.memy {p x y q y1 y2 : List Int} {a m b : Nat} (h : Lay p x y a m b) (e : y = y1 ++ y2) {z : Int} : (z ∈ y1 → ∃ i, m ≤ i ∧ i < m + y1.length ∧ kAt (p ++ (x ++ (y ++ q))) i = cls z) ∧ (z ∈ y2 → ∃ i, m + y1.length ≤ i ∧ i < b ∧ kAt (p ++ (x ++ (y ++ q))) i = cls z) := by
  obtain ⟨hp, hm, hb⟩ := h
  constructor
  · intro hz
    obtain ⟨t, ht⟩ := List.getElem?_of_mem hz
    have hl := (List.getElem?_eq_some_iff.1 ht).1
    refine ⟨m + t, by omega, by omega, kAt_is ?_⟩
    rw [List.getElem?_append_right (by omega), hp, List.getElem?_append_right (by omega), show m + t - a - x.length = t by omega, e, List.append_assoc, List.getElem?_append_left hl, ht]
  · intro hz
    obtain ⟨t, ht⟩ := List.getElem?_of_mem hz
    have hl := (List.getElem?_eq_some_iff.1 ht).1
    rw [e, List.length_append] at hb
    refine ⟨m + y1.length + t, by omega, by omega, kAt_is ?_⟩
    rw [List.getElem?_append_right (by omega), hp, List.getElem?_append_right (by omega), e, List.append_assoc, List.getElem?_append_right (by omega), show m + y1.length + t - a - x.length - y1.length = t by omega, List.getElem?_append_left hl, ht]
theorem cut_two {X : List Int} {j : Nat} (hj : j ≤ X.length) : ∃ X1 X2, X = X1 ++ X2 ∧ X1.length = j :=
  ⟨X.take j, X.drop j, (List.take_append_drop _ _).symm, by rw [List.length_take]; omega⟩

/-- One ahead of a run. -/
theorem merge_one {u : Int} {y1 y2 : List Int} (hM : Mk (u :: (y1 ++ y2))) (hy : Sd (y1 ++ y2)) (h1 : ∀ z ∈ y1, cls z < cls u) (h2 : ∀ z ∈ y2, cls u ≤ cls z) : St ([u] ++ (y1 ++ y2)) (y1 ++ u :: y2) ∧ Sd (y1 ++ u :: y2) := by
  constructor
  · have h3 : St ([u] ++ y1) (y1 ++ [u]) := St.rot (fun z hz => hM z (by simp at hz; simp [hz])) (fun z hz => hM z (by simp [hz])) (fun z hz t ht => by
      simp at hz
      subst hz
      have := h1 t ht
      omega)
    have h4 := h3.append (St.refl y2)
    simpa using h4
  · have hs := sd_append.1 hy
    refine sd_append.2 ⟨hs.1, List.pairwise_cons.2 ⟨h2, hs.2.1⟩, fun z hz t ht => ?_⟩
    rcases List.mem_cons.1 ht with rfl | ht
    · exact Int.le_of_lt (h1 z hz)
    · exact hs.2.2 z hz t ht
/-- One behind a run. -/
theorem merge_last {v : Int} {x1 x2 : List Int} (hM : Mk (x1 ++ x2 ++ [v])) (hx : Sd (x1 ++ x2)) (h1 : ∀ z ∈ x1, cls z ≤ cls v) (h2 : ∀ z ∈ x2, cls v < cls z) : St ((x1 ++ x2) ++ [v]) (x1 ++ v :: x2) ∧ Sd (x1 ++ v :: x2) := by
  constructor
  · have h3 : St (x2 ++ [v]) ([v] ++ x2) := St.rot (fun z hz => hM z (by simp [hz])) (fun z hz => hM z (by simp at hz; simp [hz])) (fun z hz t ht => by
      simp at ht
      subst ht
      have := h2 z hz
      omega)
    have h4 := (St.refl x1).append h3
    simpa using h4
  · have hs := sd_append.1 hx
    refine sd_append.2 ⟨hs.1, List.pairwise_cons.2 ⟨fun z hz => Int.le_of_lt (h2 z hz), hs.2.1⟩, fun z hz t ht => ?_⟩
    rcases List.mem_cons.1 ht with rfl | ht
    · exact h1 z hz
    · exact hs.2.2 z hz t ht
/-- The two middle runs change places, and each half is merged. -/
theorem merge_two {x1 x2 y1 y2 s1 s2 : List Int} (hM : Mk ((x1 ++ x2) ++ (y1 ++ y2))) (hx : Sd (x1 ++ x2)) (hy : Sd (y1 ++ y2)) (h1 : ∀ u ∈ x2, ∀ z ∈ y1, cls z < cls u) (h2 : ∀ u ∈ x1, ∀ z ∈ y2, cls u ≤ cls z)
    (t1 : St (x1 ++ y1) s1) (d1 : Sd s1) (t2 : St (x2 ++ y2) s2) (d2 : Sd s2) : St ((x1 ++ x2) ++ (y1 ++ y2)) (s1 ++ s2) ∧ Sd (s1 ++ s2) := by
  constructor
  · have h3 : St (x2 ++ y1) (y1 ++ x2) := St.rot (fun z hz => hM z (by simp [hz])) (fun z hz => hM z (by simp [hz])) (fun u hu z hz => by have := h1 u hu z hz; omega)
    have h4 := (St.refl x1).append (h3.append (St.refl y2))
    have h5 := t1.append t2
    refine St.trans (b := (x1 ++ y1) ++ (x2 ++ y2)) ?_ h5
    simpa using h4
  · refine sd_append.2 ⟨d1, d2, fun u hu z hz => ?_⟩
    have hu' := t1.mem.1 hu
    have hz' := t2.mem.1 hz
    have hxs := (sd_append.1 hx).2.2
    have hys := (sd_append.1 hy).2.2
    rcases List.mem_append.1 hu' with hu' | hu' <;> rcases List.mem_append.1 hz' with hz' | hz'
    · exact hxs u hu' z hz'
    · exact h2 u hu' z hz'
    · exact Int.le_of_lt (h1 z hz' u hu')
    · exact hys u hu' z hz'

/-- What the search by halves along the two runs has found. -/
def Mid (K : Nat → Int) (n lo hi s r : Nat) : Prop := (∀ c, lo ≤ c → c < s → K c ≤ K (n - 1 - c)) ∧ ∀ c, r ≤ c → c < hi → K (n - 1 - c) < K c
theorem mid_parts {p x y q x1 x2 y1 y2 : List Int} {a m b mid n lo hi s : Nat} (h : Lay p x y a m b) (hx : Sd x) (hy : Sd y) (ham : a < m) (hmb : m < b) (hmid : mid = (a + b) / 2) (hn : n = mid + m)
    (hlo : (mid < m ∧ lo + b = n ∧ hi = mid) ∨ (m ≤ mid ∧ lo = a ∧ hi = m)) (hs0 : lo ≤ s) (hs1 : s ≤ hi) (hM : Mid (kAt (p ++ (x ++ (y ++ q)))) n lo hi s s)
    (ex : x = x1 ++ x2) (l1 : a + x1.length = s) (ey : y = y1 ++ y2) (l2 : m + y1.length + s = n) :
    (∀ u ∈ x2, ∀ z ∈ y1, cls z < cls u) ∧ ∀ u ∈ x1, ∀ z ∈ y2, cls u ≤ cls z := by
  constructor
  · intro u hu z hz
    obtain ⟨cu, u0, u1, u2⟩ := (h.memx (q := q) ex).2 hu
    obtain ⟨cz, z0, z1, z2⟩ := (h.memy (q := q) ey).1 hz
    rw [← u2, ← z2]
    have e1 : s < hi := by omega
    have k1 := hM.2 s (Nat.le_refl _) e1
    have k2 := h.kx (q := q) hx (i := s) (j := cu) (by omega) (by omega) u1
    have k3 := h.ky (q := q) hy (i := cz) (j := n - 1 - s) z0 (by omega) (by omega)
    omega
  · intro u hu z hz
    obtain ⟨cu, u0, u1, u2⟩ := (h.memx (q := q) ex).1 hu
    obtain ⟨cz, z0, z1, z2⟩ := (h.memy (q := q) ey).2 hz
    rw [← u2, ← z2]
    have e1 : lo < s := by omega
    have k1 := hM.1 (s - 1) (by omega) (by omega)
    have k2 := h.kx (q := q) hx (i := cu) (j := s - 1) u0 (by omega) (by omega)
    have k3 := h.ky (q := q) hy (i := n - 1 - (s - 1)) (j := cz) (by omega) (by omega) z1
    omega

/-! Blocks. -/
/-- Runs of bs, each sorted. -/
def Blk (bs : Nat) (l : List Int) : Prop := ∀ (i j : Nat) (x y : Int), l[i]? = some x → l[j]? = some y → i ≤ j → i / bs = j / bs → cls x ≤ cls y
theorem blk_nil (bs : Nat) : Blk bs [] := fun i j x y h => by simp at h
theorem div_same {a i bs : Nat} (h0 : 0 < bs) (hd : a % bs = 0) (hi : i < bs) : (a + i) / bs = a / bs := by
  obtain ⟨k, hk⟩ : ∃ k, a = bs * k := ⟨a / bs, by have := Nat.div_add_mod a bs; omega⟩
  subst hk
  rw [Nat.mul_add_div h0, Nat.mul_div_cancel_left k h0, Nat.div_eq_of_lt hi]
  omega
theorem blk_snoc {bs : Nat} {l s : List Int} (h0 : 0 < bs) (h : Blk bs l) (hd : l.length % bs = 0) (hs : Sd s) (hl : s.length ≤ bs) : Blk bs (l ++ s) := by
  intro i j x y hx hy hij he
  have hj := (List.getElem?_eq_some_iff.1 hy).1
  rw [List.length_append] at hj
  by_cases h1 : j < l.length
  · rw [List.getElem?_append_left (by omega)] at hx
    rw [List.getElem?_append_left h1] at hy
    exact h i j x y hx hy hij he
  · have ej := div_same h0 hd (i := j - l.length) (by omega)
    rw [show l.length + (j - l.length) = j by omega] at ej
    by_cases h2 : i < l.length
    · exfalso
      rw [ej] at he
      obtain ⟨k, hk⟩ : ∃ k, l.length = bs * k := ⟨l.length / bs, by have := Nat.div_add_mod l.length bs; omega⟩
      rw [hk, Nat.mul_div_cancel_left k h0] at he
      have := (Nat.div_lt_iff_lt_mul h0).2 (show i < k * bs by rw [Nat.mul_comm]; omega)
      omega
    · rw [List.getElem?_append_right (by omega)] at hx hy
      exact hs.at hx hy (by omega)
theorem blk_cut {bs : Nat} {l r : List Int} (h0 : 0 < bs) (h : Blk bs (l ++ r)) (hd : l.length % bs = 0) : Blk bs r := by
  intro i j x y hx hy hij he
  obtain ⟨k, hk⟩ : ∃ k, l.length = bs * k := ⟨l.length / bs, by have := Nat.div_add_mod l.length bs; omega⟩
  refine h (l.length + i) (l.length + j) x y (by rw [List.getElem?_append_right (by omega)]; simpa using hx) (by rw [List.getElem?_append_right (by omega)]; simpa using hy) (by omega) ?_
  rw [hk, Nat.mul_add_div h0, Nat.mul_add_div h0, he]
theorem blk_sd {bs : Nat} {l r : List Int} (h : Blk bs (l ++ r)) (hl : l.length ≤ bs) : Sd l := sd_of_at fun i j a b ha hb hij => by
  have hi := (List.getElem?_eq_some_iff.1 ha).1
  have hj := (List.getElem?_eq_some_iff.1 hb).1
  refine h i j a b (by rw [List.getElem?_append_left hi]; exact ha) (by rw [List.getElem?_append_left hj]; exact hb) (by omega) ?_
  rw [Nat.div_eq_of_lt (by omega), Nat.div_eq_of_lt (by omega)]
theorem blk_whole {bs : Nat} {l : List Int} (h : Blk bs l) (hl : l.length ≤ bs) : Sd l := blk_sd (r := []) (by simpa using h) hl
end Go.Proofs.YtipigfgnpfhdbaaGreatDoor.F
namespace Go.Proofs.YtipigfgnpfhdbaaGreatDoor.F
open Go.RowKit U
set_option linter.unusedVariables false

def S1Rel (base : Nat) (w0 : World) (g off a m b : Nat) (D : List Int) (i j : Value) (w : World) : Prop :=
  ∃ I J : Nat, i = .int .i64 I ∧ j = .int .i64 J ∧ m ≤ I ∧ I ≤ J ∧ J ≤ b ∧ Hid ((∀ t, m ≤ t → t < I → kAt D t < kAt D a) ∧ ∀ t, J ≤ t → t < b → kAt D a ≤ kAt D t) ∧ Hid (In base w0 g off D w)
def S1Sh (base : Nat) (w0 : World) (g off a : Nat) (p q : List Int) (u : Int) (y1 y2 : List Int) (k : Value) (w : World) : Prop :=
  ∃ K : Nat, k = .int .i64 K ∧ a ≤ K ∧ K ≤ a + y1.length ∧ Hid (∃ A B, y1 = A ++ B ∧ a + A.length = K ∧ In base w0 g off (p ++ ((A ++ u :: (B ++ y2)) ++ q)) w)

set_option maxRecDepth 1000000 in
set_option maxHeartbeats 8000000 in
theorem sym1_is (base g off cap a m b N : Nat) (p y q : List Int) (u : Int) (w0 w : World) (hI : In base w0 g off (p ++ ([u] ++ (y ++ q))) w) (hL : Lay p [u] y a m b) (hM : Mk ([u] ++ y)) (hy : Sd y) (hmb : m < b)
    (hN : (p ++ ([u] ++ (y ++ q))).length = N) (hsz : N ≤ 1099511627776) :
    Calls Tryz.prog 149 #[.slice (some ⟨g, off, none⟩) N cap, .int .i64 a, .int .i64 m, .int .i64 b, .func (.func 104) #[] #[]] w (Sorted base w0 g off p ([u] ++ y) q) := by
  have eg := enters_18
  have hmix := mixed
  have ham : a + 1 = m := by have := hL.2.1; simpa using this
  have hbN : b ≤ N := by
    have h1 := hL.1
    have h2 := hL.2.2
    simp at hN
    omega
  obtain ⟨D, hD⟩ : ∃ D, D = p ++ ([u] ++ (y ++ q)) := ⟨_, rfl⟩
  have ga : D[a]? = some u := by rw [hD]; exact at_mid p u (y ++ q) hL.1
  have HGA := Lib.hid ga
  have HKA := Lib.hid (kAt_is ga)
  have HAT : Hid (∀ i, m ≤ i → i < b → ∃ z, D[i]? = some z) := Lib.hid fun i h0 h1 => by
    obtain ⟨z, _, hz⟩ := hL.aty (q := q) h0 h1
    exact ⟨z, by rw [hD]; exact hz⟩
  have HKY : Hid (∀ i j, m ≤ i → i ≤ j → j < b → kAt D i ≤ kAt D j) := Lib.hid fun i j h0 h1 h2 => by rw [hD]; exact hL.ky hy h0 h1 h2
  have HI := Lib.hid (show In base w0 g off D w by rw [hD]; exact hI)
  have HD := Lib.hid hD
  have HL := Lib.hid hL
  have HM := Lib.hid hM
  have HS := Lib.hid hy
  have z1 : (m : Int) - (a : Int) = 1 := by omega
  clear hI hL hM hy hN hD ga
  go_enter Tryz.func149, Tryz.ntmps149
  go_wp2
  go_loopw [10, 11] (fun i j wr => S1Rel base w0 g off a m b D i j wr) (fun i j _ => (intOf j).toNat - (intOf i).toNat)
  case atStart => exact ⟨m, b, rfl, rfl, Nat.le_refl _, by omega, Nat.le_refl _, Lib.hid ⟨fun t h1 h2 => by omega, fun t h1 h2 => by omega⟩, HI⟩
  case round =>
    clear HI
    obtain ⟨I, J, rfl, rfl, hmI, hIJ, hJb, HK, HIN⟩ := hrel
    by_cases hlt : I < J
    · obtain ⟨h, hh⟩ : ∃ h, h = (I + J) / 2 := ⟨_, rfl⟩
      have h1 : I ≤ h := by omega
      have h2 : h < J := by omega
      have em : ((I : Int) + (J : Int)) / 2 = (h : Int) := by omega
      obtain ⟨z, hz⟩ := HAT.out h (by omega) (by omega)
      have HZ := Lib.hid (kAt_is hz)
      have la := HIN.out.cells hz
      have lb := HIN.out.cells HGA.out
      obtain ⟨c, hc⟩ : ∃ c, cmpI (cls z) (cls u) = c := ⟨_, rfl⟩
      have hcc := HIN.out.comp z u c hc
      have ba : (h : Int) < (N : Int) := by omega
      have bc : (a : Int) < (N : Int) := by omega
      have pa : (0 : Int) ≤ (h : Int) := by omega
      have pc : (0 : Int) ≤ (a : Int) := by omega
      clear hz hh
      by_cases hzu : cls z < cls u
      · have hd : c < 0 := by rw [← hc]; exact cmpI_neg.2 hzu
        have hdd : decide (c < 0) = true := decide_eq_true hd
        have HN1 : Hid ((∀ t, m ≤ t → t < h + 1 → kAt D t < kAt D a) ∧ ∀ t, J ≤ t → t < b → kAt D a ≤ kAt D t) := Lib.hid ⟨fun t t0 t1 => by
          have k1 := HKY.out t h t0 (by omega) (by omega)
          have k2 := HZ.out
          have k3 := HKA.out
          omega, HK.out.2⟩
        clear hzu hc HK
        go_wp2_with fail
        go_quiet_grown (first | (go_at_fn 104; refine Calls.grown_of (hcc _ _)))
        have S2 : Hid (In base w0 g off D (Sort.grow (wr.drewN nq) osq)) := Lib.hid (HIN.out.gr ⟨nq, osq, rfl⟩)
        clear la lb hcc HIN
        generalize Sort.grow (wr.drewN nq) osq = w2 at S2 ⊢
        go_wp2
        go_roundw
        case rel => exact ⟨h + 1, J, by go_num, rfl, by omega, by omega, hJb, HN1, S2⟩
        case measure => simp [intOf]; omega
      · have hd : ¬ c < 0 := by rw [← hc]; exact fun h => hzu (cmpI_neg.1 h)
        have hdd : decide (c < 0) = false := decide_eq_false hd
        have HN1 : Hid ((∀ t, m ≤ t → t < I → kAt D t < kAt D a) ∧ ∀ t, h ≤ t → t < b → kAt D a ≤ kAt D t) := Lib.hid ⟨HK.out.1, fun t t0 t1 => by
          have k1 := HKY.out h t (by omega) t0 t1
          have k2 := HZ.out
          have k3 := HKA.out
          omega⟩
        clear hzu hc HK
        go_wp2_with fail
        go_quiet_grown (first | (go_at_fn 104; refine Calls.grown_of (hcc _ _)))
        have S2 : Hid (In base w0 g off D (Sort.grow (wr.drewN nq) osq)) := Lib.hid (HIN.out.gr ⟨nq, osq, rfl⟩)
        clear la lb hcc HIN
        generalize Sort.grow (wr.drewN nq) osq = w2 at S2 ⊢
        go_wp2
        go_roundw
        case rel => exact ⟨I, h, rfl, by go_num, hmI, by omega, by omega, HN1, S2⟩
        case measure => simp [intOf]; omega
    · obtain rfl : I = J := by omega
      obtain ⟨y1, y2, ey, l1⟩ := cut_two (X := y) (j := I - m) (by have := HL.out.2.2; omega)
      have HQ : Hid (St ([u] ++ y) (y1 ++ u :: y2) ∧ Sd (y1 ++ u :: y2)) := Lib.hid (by
        rw [ey]
        refine merge_one (by have := HM.out; rw [ey] at this; exact this) (by rw [← ey]; exact HS.out) (fun z hz => ?_) (fun z hz => ?_)
        · obtain ⟨t, t0, t1, t2⟩ := (HL.out.memy (q := q) ey).1 hz
          have := HK.out.1 t t0 (by omega)
          rw [HKA.out, HD.out, t2] at this
          exact this
        · obtain ⟨t, t0, t1, t2⟩ := (HL.out.memy (q := q) ey).2 hz
          have := HK.out.2 t (by omega) t1
          rw [HKA.out, HD.out, t2] at this
          exact this)
      have HST : Hid (In base w0 g off (p ++ (([] ++ u :: (y1 ++ y2)) ++ q)) wr) := Lib.hid (by
        have := HIN.out
        rw [HD.out, ey] at this
        simpa using this)
      obtain ⟨n1, hn1⟩ : ∃ n1, y1.length = n1 := ⟨_, rfl⟩
      have z2 : (I : Int) - 1 = (a : Int) + (n1 : Int) := by omega
      have hI1 : I = a + n1 + 1 := by omega
      have HLEN := Lib.hid hn1
      have hpl := HL.out.1
      have HPL := Lib.hid hpl
      clear HK HIN ey l1 HKY HAT HGA HKA HS HM HD HL hn1 hpl
      generalize wr = wo at HST ⊢
      clear wr
      have hnlt : ¬ (I : Int) < (I : Int) := by omega
      go_wp2
      go_loopw [13] (fun k wr => S1Sh base w0 g off a p q u y1 y2 k wr) (fun k _ => a + n1 - (intOf k).toNat)
      case atStart => exact ⟨a, rfl, Nat.le_refl _, by omega, Lib.hid ⟨[], y1, rfl, rfl, HST.out⟩⟩
      case round =>
        clear HST
        obtain ⟨K, rfl, haK, hKn, HR⟩ := hrel
        rw [HLEN.out] at hKn
        by_cases hlt2 : K < a + n1
        · obtain ⟨A, v, B, e1, e2, hin⟩ : ∃ A v B, y1 = A ++ v :: B ∧ a + A.length = K ∧ In base w0 g off ((p ++ A) ++ u :: ([] ++ v :: ((B ++ y2) ++ q))) wr := by
            obtain ⟨A, B, e1, e2, hin⟩ := HR.out
            cases B with
            | nil =>
              have := HLEN.out
              rw [e1] at this
              simp at this
              omega
            | cons v B => exact ⟨A, v, B, e1, e2, by simpa using hin⟩
          have hpp := HPL.out
          have hA : (p ++ A).length = K := by rw [List.length_append]; omega
          obtain ⟨K1, hK1⟩ : ∃ K1, K + 1 = K1 := ⟨_, rfl⟩
          have hJ : K + 1 + ([] : List Int).length = K1 := by simpa using hK1
          have g1 := at_mid (p ++ A) u ([] ++ v :: ((B ++ y2) ++ q)) hA
          have g2 := at_mid2 (p ++ A) u [] v ((B ++ y2) ++ q) hA hJ
          have hne : K ≠ K1 := by omega
          have c1 := hin.cell g1
          have c2 := hin.cell g2
          have f1 := hin.free g1
          have f2 := hin.free g2
          have c3 := hin.c2 g2 hne (.int .i32 v)
          have S3 : Hid (In base w0 g off ((p ++ A) ++ v :: ([] ++ u :: ((B ++ y2) ++ q))) ((wr.setCell ⟨g, off + K, none⟩ (.int .i32 v)).setCell ⟨g, off + K1, none⟩ (.int .i32 u)).drew) := Lib.hid (hin.swap g1 g2 hne (swap_mid (p ++ A) u v [] ((B ++ y2) ++ q) hA hJ))
          have HV : Hid (∀ w', In base w0 g off ((p ++ A) ++ v :: ([] ++ u :: ((B ++ y2) ++ q))) w' → S1Sh base w0 g off a p q u y1 y2 (.int .i64 ((K : Int) + 1)) w') := Lib.hid fun w' hi =>
            ⟨K + 1, by go_num, by omega, by rw [HLEN.out]; omega, Lib.hid ⟨A ++ [v], B, by rw [e1]; simp, by simp; omega, by simpa using hi⟩⟩
          have ea : ((K : Int) + 1).toNat = K1 := by omega
          have pa : (0 : Int) ≤ (K : Int) + 1 := by omega
          have ba : (K : Int) + 1 < (N : Int) := by omega
          have ra : IntKind.i64.wrap ((K : Int) + 1) = (K : Int) + 1 := by rw [IntKind.wrap_i64]; omega
          have pc : (0 : Int) ≤ (K : Int) := by omega
          have bc : (K : Int) < (N : Int) := by omega
          have hkz : (K : Int) < (a : Int) + (n1 : Int) := by omega
          clear g1 g2 hA hJ e1 e2 hin hpp HR hne hK1
          go_wp2_with fail
          go_region
          clear c1 c2 c3 f1 f2
          generalize ((wr.setCell ⟨g, off + K, none⟩ (.int .i32 v)).setCell ⟨g, off + K1, none⟩ (.int .i32 u)).drew = w3 at S3 ⊢
          clear ea
          go_wp2
          go_roundw
          case rel => exact HV.out _ S3.out
          case measure => simp [intOf]; omega
        · obtain rfl : K = a + n1 := by omega
          have hF : Hid (∃ s', St ([u] ++ y) s' ∧ Sd s' ∧ In base w0 g off (p ++ (s' ++ q)) wr) := Lib.hid (by
            obtain ⟨A, B, e1, e2, hin⟩ := HR.out
            have h5 := HLEN.out
            rw [e1, List.length_append] at h5
            obtain rfl : B = [] := List.eq_nil_of_length_eq_zero (by omega)
            rw [List.append_nil] at e1
            subst e1
            exact ⟨y1 ++ u :: y2, HQ.out.1, HQ.out.2, by simpa using hin⟩)
          have hkz : ¬ ((a + n1 : Nat) : Int) < (a : Int) + (n1 : Int) := by omega
          clear HR
          go_wp2
          (try simp only [Exit.inBlock, Exit.then])
          refine bodyPost_ret (results_none rfl _ _ _) rfl ?_
          exact ⟨rfl, hF.out⟩
end Go.Proofs.YtipigfgnpfhdbaaGreatDoor.F
namespace Go.Proofs.YtipigfgnpfhdbaaGreatDoor.F
open Go.RowKit U
set_option linter.unusedVariables false

def S2Rel (base : Nat) (w0 : World) (g off a m : Nat) (D : List Int) (i j : Value) (w : World) : Prop :=
  ∃ I J : Nat, i = .int .i64 I ∧ j = .int .i64 J ∧ a ≤ I ∧ I ≤ J ∧ J ≤ m ∧ Hid ((∀ t, a ≤ t → t < I → kAt D t ≤ kAt D m) ∧ ∀ t, J ≤ t → t < m → kAt D m < kAt D t) ∧ Hid (In base w0 g off D w)
def S2Sh (base : Nat) (w0 : World) (g off I m : Nat) (p q : List Int) (v : Int) (x1 x2 : List Int) (k : Value) (w : World) : Prop :=
  ∃ K : Nat, k = .int .i64 K ∧ I ≤ K ∧ K ≤ m ∧ Hid (∃ A B, x2 = A ++ B ∧ I + A.length = K ∧ In base w0 g off (p ++ ((x1 ++ (A ++ v :: B)) ++ q)) w)

set_option maxRecDepth 1000000 in
set_option maxHeartbeats 8000000 in
theorem sym2_is (base g off cap a m b N : Nat) (p x q : List Int) (v : Int) (w0 w : World) (hI : In base w0 g off (p ++ (x ++ ([v] ++ q))) w) (hL : Lay p x [v] a m b) (hM : Mk (x ++ [v])) (hx : Sd x) (ham : a + 1 < m)
    (hN : (p ++ (x ++ ([v] ++ q))).length = N) (hsz : N ≤ 1099511627776) :
    Calls Tryz.prog 149 #[.slice (some ⟨g, off, none⟩) N cap, .int .i64 a, .int .i64 m, .int .i64 b, .func (.func 104) #[] #[]] w (Sorted base w0 g off p (x ++ [v]) q) := by
  have eg := enters_18
  have hmix := mixed
  have hmb : m + 1 = b := by have := hL.2.2; simpa using this
  have hbN : b ≤ N := by
    have h1 := hL.1
    have h2 := hL.2.1
    simp at hN
    omega
  obtain ⟨D, hD⟩ : ∃ D, D = p ++ (x ++ ([v] ++ q)) := ⟨_, rfl⟩
  have ga : D[m]? = some v := by
    rw [hD, ← List.append_assoc]
    exact at_mid (p ++ x) v q (by have h1 := hL.1; have h2 := hL.2.1; rw [List.length_append]; omega)
  have HGA := Lib.hid ga
  have HKA := Lib.hid (kAt_is ga)
  have HAT : Hid (∀ i, a ≤ i → i < m → ∃ z, D[i]? = some z) := Lib.hid fun i h0 h1 => by
    obtain ⟨z, _, hz⟩ := hL.atx (q := q) h0 h1
    exact ⟨z, by rw [hD]; exact hz⟩
  have HKX : Hid (∀ i j, a ≤ i → i ≤ j → j < m → kAt D i ≤ kAt D j) := Lib.hid fun i j h0 h1 h2 => by rw [hD]; exact hL.kx hx h0 h1 h2
  have HI := Lib.hid (show In base w0 g off D w by rw [hD]; exact hI)
  have HD := Lib.hid hD
  have HL := Lib.hid hL
  have HM := Lib.hid hM
  have HS := Lib.hid hx
  have z0 : ((m : Int) - (a : Int) == 1) = false := by simp; omega
  have z1 : (b : Int) - (m : Int) = 1 := by omega
  clear hI hL hM hx hN hD ga
  go_enter Tryz.func149, Tryz.ntmps149
  go_wp2
  go_loopw [14, 15] (fun i j wr => S2Rel base w0 g off a m D i j wr) (fun i j _ => (intOf j).toNat - (intOf i).toNat)
  case atStart => exact ⟨a, m, rfl, rfl, Nat.le_refl _, by omega, Nat.le_refl _, Lib.hid ⟨fun t h1 h2 => by omega, fun t h1 h2 => by omega⟩, HI⟩
  case round =>
    clear HI
    obtain ⟨I, J, rfl, rfl, hmI, hIJ, hJb, HK, HIN⟩ := hrel
    by_cases hlt : I < J
    · obtain ⟨h, hh⟩ : ∃ h, h = (I + J) / 2 := ⟨_, rfl⟩
      have h1 : I ≤ h := by omega
      have h2 : h < J := by omega
      have em : ((I : Int) + (J : Int)) / 2 = (h : Int) := by omega
      obtain ⟨z, hz⟩ := HAT.out h (by omega) (by omega)
      have HZ := Lib.hid (kAt_is hz)
      have la := HIN.out.cells hz
      have lb := HIN.out.cells HGA.out
      obtain ⟨c, hc⟩ : ∃ c, cmpI (cls v) (cls z) = c := ⟨_, rfl⟩
      have hcc := HIN.out.comp v z c hc
      have ba : (h : Int) < (N : Int) := by omega
      have bc : (m : Int) < (N : Int) := by omega
      have pa : (0 : Int) ≤ (h : Int) := by omega
      have pc : (0 : Int) ≤ (m : Int) := by omega
      clear hz hh
      by_cases hzu : cls v < cls z
      · have hd : c < 0 := by rw [← hc]; exact cmpI_neg.2 hzu
        have hdd : decide (c < 0) = true := decide_eq_true hd
        have HN1 : Hid ((∀ t, a ≤ t → t < I → kAt D t ≤ kAt D m) ∧ ∀ t, h ≤ t → t < m → kAt D m < kAt D t) := Lib.hid ⟨HK.out.1, fun t t0 t1 => by
          have k1 := HKX.out h t (by omega) t0 t1
          have k2 := HZ.out
          have k3 := HKA.out
          omega⟩
        clear hzu hc HK
        go_wp2_with fail
        go_quiet_grown (first | (go_at_fn 104; refine Calls.grown_of (hcc _ _)))
        have S2 : Hid (In base w0 g off D (Sort.grow (wr.drewN nq) osq)) := Lib.hid (HIN.out.gr ⟨nq, osq, rfl⟩)
        clear la lb hcc HIN
        generalize Sort.grow (wr.drewN nq) osq = w2 at S2 ⊢
        go_wp2
        go_roundw
        case rel => exact ⟨I, h, rfl, by go_num, hmI, by omega, by omega, HN1, S2⟩
        case measure => simp [intOf]; omega
      · have hd : ¬ c < 0 := by rw [← hc]; exact fun h => hzu (cmpI_neg.1 h)
        have hdd : decide (c < 0) = false := decide_eq_false hd
        have HN1 : Hid ((∀ t, a ≤ t → t < h + 1 → kAt D t ≤ kAt D m) ∧ ∀ t, J ≤ t → t < m → kAt D m < kAt D t) := Lib.hid ⟨fun t t0 t1 => by
          have k1 := HKX.out t h t0 (by omega) (by omega)
          have k2 := HZ.out
          have k3 := HKA.out
          omega, HK.out.2⟩
        clear hzu hc HK
        go_wp2_with fail
        go_quiet_grown (first | (go_at_fn 104; refine Calls.grown_of (hcc _ _)))
        have S2 : Hid (In base w0 g off D (Sort.grow (wr.drewN nq) osq)) := Lib.hid (HIN.out.gr ⟨nq, osq, rfl⟩)
        clear la lb hcc HIN
        generalize Sort.grow (wr.drewN nq) osq = w2 at S2 ⊢
        go_wp2
        go_roundw
        case rel => exact ⟨h + 1, J, by go_num, rfl, by omega, by omega, hJb, HN1, S2⟩
        case measure => simp [intOf]; omega
    · obtain rfl : I = J := by omega
      obtain ⟨x1, x2, ex, l1⟩ := cut_two (X := x) (j := I - a) (by have := HL.out.2.1; omega)
      have HQ : Hid (St (x ++ [v]) (x1 ++ v :: x2) ∧ Sd (x1 ++ v :: x2)) := Lib.hid (by
        rw [ex]
        refine merge_last (by have := HM.out; rw [ex] at this; exact this) (by rw [← ex]; exact HS.out) (fun z hz => ?_) (fun z hz => ?_)
        · obtain ⟨t, t0, t1, t2⟩ := (HL.out.memx (q := q) ex).1 hz
          have := HK.out.1 t t0 (by omega)
          rw [HKA.out, HD.out, t2] at this
          exact this
        · obtain ⟨t, t0, t1, t2⟩ := (HL.out.memx (q := q) ex).2 hz
          have := HK.out.2 t (by omega) t1
          rw [HKA.out, HD.out, t2] at this
          exact this)
      have HST : Hid (In base w0 g off (p ++ ((x1 ++ (x2 ++ v :: [])) ++ q)) wr) := Lib.hid (by
        have := HIN.out
        rw [HD.out, ex] at this
        simpa using this)
      have hX2 : I + x2.length = m := by
        have := HL.out.2.1
        rw [ex, List.length_append] at this
        omega
      have HX2 := Lib.hid hX2
      have hX1 : p.length + x1.length = I := by have := HL.out.1; omega
      have HX1 := Lib.hid hX1
      clear HK HIN ex l1 HKX HAT HGA HKA HS HM HD HL hX2 hX1
      generalize wr = wo at HST ⊢
      clear wr
      have hnlt : ¬ (I : Int) < (I : Int) := by omega
      go_wp2
      go_loopw [17] (fun k wr => S2Sh base w0 g off I m p q v x1 x2 k wr) (fun k _ => (intOf k).toNat)
      case atStart => exact ⟨m, rfl, by omega, Nat.le_refl _, Lib.hid ⟨x2, [], by simp, HX2.out, HST.out⟩⟩
      case round =>
        clear HST
        obtain ⟨K, rfl, haK, hKn, HR⟩ := hrel
        by_cases hlt2 : I < K
        · obtain ⟨K1, hK1⟩ : ∃ K1, K1 + 1 = K := ⟨K - 1, by omega⟩
          obtain ⟨A, u, B, e1, e2, hin⟩ : ∃ A u B, x2 = A ++ u :: B ∧ I + A.length = K1 ∧ In base w0 g off ((p ++ (x1 ++ A)) ++ u :: ([] ++ v :: (B ++ q))) wr := by
            obtain ⟨A, B, e1, e2, hin⟩ := HR.out
            rcases List.eq_nil_or_concat A with rfl | ⟨A0, u, rfl⟩
            · simp at e2; omega
            · rw [List.concat_eq_append] at e1 e2 hin
              exact ⟨A0, u, B, by rw [e1]; simp, by simp at e2; omega, by simpa using hin⟩
          have hpp := HX1.out
          have hA : (p ++ (x1 ++ A)).length = K1 := by simp only [List.length_append]; omega
          have hJ : K1 + 1 + ([] : List Int).length = K := by simpa using hK1
          have g1 := at_mid (p ++ (x1 ++ A)) u ([] ++ v :: (B ++ q)) hA
          have g2 := at_mid2 (p ++ (x1 ++ A)) u [] v (B ++ q) hA hJ
          have hne : K ≠ K1 := by omega
          have c1 := hin.cell g2
          have c2 := hin.cell g1
          have f1 := hin.free g2
          have f2 := hin.free g1
          have c3 := hin.c2 g1 hne (.int .i32 u)
          have S3 : Hid (In base w0 g off ((p ++ (x1 ++ A)) ++ v :: ([] ++ u :: (B ++ q))) ((wr.setCell ⟨g, off + K, none⟩ (.int .i32 u)).setCell ⟨g, off + K1, none⟩ (.int .i32 v)).drew) := Lib.hid (hin.swap g2 g1 hne fun k => by
            rw [swap_mid (p ++ (x1 ++ A)) u v [] (B ++ q) hA hJ k]
            by_cases e1 : k = K1
            · rw [if_pos e1, if_neg (by omega), if_pos e1]
            · rw [if_neg e1]
              by_cases e2 : k = K
              · rw [if_pos e2, if_pos e2]
              · rw [if_neg e2, if_neg e2, if_neg e1])
          have HV : Hid (∀ w', In base w0 g off ((p ++ (x1 ++ A)) ++ v :: ([] ++ u :: (B ++ q))) w' → S2Sh base w0 g off I m p q v x1 x2 (.int .i64 (K1 : Int)) w') := Lib.hid fun w' hi =>
            ⟨K1, rfl, by omega, by omega, Lib.hid ⟨A, u :: B, e1, e2, by simpa using hi⟩⟩
          have zK : (K : Int) = (K1 : Int) + 1 := by omega
          have ea : ((K1 : Int) + 1).toNat = K := by omega
          have pa : (0 : Int) ≤ (K1 : Int) + 1 := by omega
          have ba : (K1 : Int) + 1 < (N : Int) := by omega
          have ra : IntKind.i64.wrap ((K1 : Int) + 1) = (K1 : Int) + 1 := by rw [IntKind.wrap_i64]; omega
          have ec : ((K1 : Int)).toNat = K1 := by omega
          have pc : (0 : Int) ≤ (K1 : Int) := by omega
          have bc : (K1 : Int) < (N : Int) := by omega
          have rc : IntKind.i64.wrap ((K1 : Int)) = (K1 : Int) := by rw [IntKind.wrap_i64]; omega
          have hkz : (I : Int) < (K1 : Int) + 1 := by omega
          clear g1 g2 hA hJ e1 e2 hin hpp HR hne
          rw [zK]
          clear zK
          go_wp2_with fail
          go_region
          clear c1 c2 c3 f1 f2
          generalize ((wr.setCell ⟨g, off + K, none⟩ (.int .i32 u)).setCell ⟨g, off + K1, none⟩ (.int .i32 v)).drew = w3 at S3 ⊢
          clear ea ec
          go_wp2
          go_roundw
          case rel => exact HV.out _ S3.out
          case measure => simp [intOf]; try omega
        · obtain rfl : K = I := by omega
          have hF : Hid (∃ s', St (x ++ [v]) s' ∧ Sd s' ∧ In base w0 g off (p ++ (s' ++ q)) wr) := Lib.hid (by
            obtain ⟨A, B, e1, e2, hin⟩ := HR.out
            obtain rfl : A = [] := List.eq_nil_of_length_eq_zero (by omega)
            rw [List.nil_append] at e1
            subst e1
            exact ⟨x1 ++ v :: x2, HQ.out.1, HQ.out.2, by simpa using hin⟩)
          have hkz : ¬ (K : Int) < (K : Int) := by omega
          clear HR
          go_wp2
          (try simp only [Exit.inBlock, Exit.then])
          refine bodyPost_ret (results_none rfl _ _ _) rfl ?_
          exact ⟨rfl, hF.out⟩
end Go.Proofs.YtipigfgnpfhdbaaGreatDoor.F
namespace Go.Proofs.YtipigfgnpfhdbaaGreatDoor.F
open Go.RowKit U
set_option linter.unusedVariables false

def RotRel (base : Nat) (w0 : World) (g off : Nat) (p x y q : List Int) (m : Nat) (i j : Value) (w : World) : Prop :=
  ∃ I J : Nat, i = .int .i64 I ∧ j = .int .i64 J ∧ 0 < I ∧ 0 < J ∧ I ≤ m ∧ m + J ≤ p.length + x.length + y.length ∧ Hid (∃ A X Y B, X.length = I ∧ Y.length = J ∧ p.length + A.length + I = m ∧ A ++ (Y ++ (X ++ B)) = y ++ x ∧ In base w0 g off (p ++ (A ++ (X ++ (Y ++ (B ++ q))))) w)

theorem cut_at {X : List Int} {j n : Nat} (h : X.length = n) (hj : j ≤ n) : ∃ X1 X2, X = X1 ++ X2 ∧ X1.length = j ∧ X2.length = n - j :=
  ⟨X.take j, X.drop j, (List.take_append_drop _ _).symm, by rw [List.length_take]; omega, by rw [List.length_drop]; omega⟩

set_option maxRecDepth 1000000 in
set_option maxHeartbeats 8000000 in
theorem rotate_is (base g off cap a m b N : Nat) (p x y q : List Int) (w0 w : World) (F : Value) (hI : In base w0 g off (p ++ (x ++ (y ++ q))) w) (hp : p.length = a) (hm : a + x.length = m) (hb : m + y.length = b) (hx : 0 < x.length) (hy : 0 < y.length)
    (hN : (p ++ (x ++ (y ++ q))).length = N) (hs : N ≤ 1099511627776) :
    Calls Tryz.prog 163 #[.slice (some ⟨g, off, none⟩) N cap, .int .i64 a, .int .i64 m, .int .i64 b, F] w (Done base w0 g off (p ++ (y ++ (x ++ q)))) := by
  have hN' : a + x.length + y.length + q.length = N := by simp at hN; omega
  obtain ⟨I0, hI0⟩ : ∃ I0, x.length = I0 := ⟨_, rfl⟩
  obtain ⟨J0, hJ0⟩ : ∃ J0, y.length = J0 := ⟨_, rfl⟩
  have HI := Lib.hid hI
  have hm0 : a + I0 = m := by omega
  have hb0 : m + J0 = b := by omega
  have hi0 : 0 < I0 := by omega
  have hj0 : 0 < J0 := by omega
  have hbN : b ≤ N := by omega
  have s1 : (m : Int) - (a : Int) = (I0 : Int) := by omega
  have s2 : (b : Int) - (m : Int) = (J0 : Int) := by omega
  have HP := Lib.hid hp
  have HX := Lib.hid hI0
  have HY := Lib.hid hJ0
  have HN := Lib.hid hN'
  have HB := Lib.hid hb0
  have HM := Lib.hid hm0
  clear hI hp hm hb hx hy hN hN' hI0 hJ0 hb0 hm0
  go_enter Tryz.func163, Tryz.ntmps163
  go_wp2
  go_loopw [10, 11] (fun i j wr => RotRel base w0 g off p x y q m i j wr) (fun i j _ => (intOf i).toNat + (intOf j).toNat)
  case atStart => exact ⟨I0, J0, rfl, rfl, hi0, hj0, by have := HM.out; omega, by rw [HP.out, HX.out, HY.out]; have := HM.out; omega, Lib.hid ⟨[], x, y, [], HX.out, HY.out, by have := HP.out; have := HM.out; simp; omega, by simp, by simpa using HI.out⟩⟩
  case round =>
    clear HI s1 s2 hi0 hj0
    obtain ⟨I, J, rfl, rfl, hi, hj, him, hjb, HR⟩ := hrel
    rw [HP.out, HX.out, HY.out] at hjb
    have hjb' : m + J ≤ b := by have := HM.out; have := HB.out; omega
    clear hjb
    have hmN : m ≤ 1099511627776 := by have := HB.out; omega
    have hJN : m + J ≤ 1099511627776 := by omega
    obtain ⟨a1, ha1⟩ : ∃ a1, a1 + I = m := ⟨m - I, by omega⟩
    have z1 : (m : Int) - (I : Int) = (a1 : Int) := by omega
    rcases Nat.lt_trichotomy I J with hlt | rfl | hgt
    · obtain ⟨b1, hb1⟩ : ∃ b1, b1 + I = m + J := ⟨m + J - I, by omega⟩
      have z2 : (m : Int) + (J : Int) - (I : Int) = (b1 : Int) := by omega
      obtain ⟨j2, hj2⟩ : ∃ j2, j2 + I = J := ⟨J - I, by omega⟩
      have z3 : (J : Int) - (I : Int) = (j2 : Int) := by omega
      have hc : Hid (∀ F, Calls Tryz.prog 174 #[.slice (some ⟨g, off, none⟩) N cap, .int .i64 a1, .int .i64 b1, .int .i64 I, F] wr fun e w' => e = .returned (.tuple #[]) ∧ Hid (∃ A X Y B, X.length = I ∧ Y.length = j2 ∧ p.length + A.length + I = m ∧ A ++ (Y ++ (X ++ B)) = y ++ x ∧ In base w0 g off (p ++ (A ++ (X ++ (Y ++ (B ++ q))))) w')) := Lib.hid fun F => by
        obtain ⟨A, X, Y, B, l1, l2, l3, e, hin⟩ := HR.out
        obtain ⟨Y1, Y2, rfl, k1, k2⟩ := cut_at l2 (j := j2) (by omega)
        have hlen := congrArg List.length e
        simp only [List.length_append] at hlen
        have hxx := HX.out
        have hyy := HY.out
        have hNN := HN.out
        have hpp := HP.out
        refine (swapRange_is base g off cap a1 b1 I N (p ++ A) X Y1 Y2 (B ++ q) w0 wr F (by simpa using hin) (by simp; omega) (by omega) l1 (by omega) (by simp only [List.length_append]; omega) hs).mono ?_
        rintro e' w' ⟨rfl, h'⟩
        refine ⟨rfl, Lib.hid ⟨A, Y2, Y1, X ++ B, by omega, by omega, l3, by rw [← e]; simp, by simpa using h'⟩⟩
      clear HR
      have q1 : ((I : Int) != (J : Int)) = true := by simp; omega
      have q2 : ¬ (J : Int) < (I : Int) := by omega
      clear ha1 hb1
      go_wp2_with fail
      with_reducible refine (hc.out _).mono ?_
      rintro e' w' ⟨rfl, HR'⟩
      go_wp2
      go_roundw
      case rel => exact ⟨I, j2, rfl, by go_num, hi, by omega, him, by rw [HP.out, HX.out, HY.out]; have := HM.out; have := HB.out; omega, HR'⟩
      case measure => simp [intOf]; omega
    · have hc : Hid (∀ F, Calls Tryz.prog 174 #[.slice (some ⟨g, off, none⟩) N cap, .int .i64 a1, .int .i64 m, .int .i64 I, F] wr fun e w' => e = .returned (.tuple #[]) ∧ Hid (In base w0 g off (p ++ (y ++ (x ++ q))) w')) := Lib.hid fun F => by
        obtain ⟨A, X, Y, B, l1, l2, l3, e, hin⟩ := HR.out
        have hlen := congrArg List.length e
        simp only [List.length_append] at hlen
        have hxx := HX.out
        have hyy := HY.out
        have hNN := HN.out
        have hpp := HP.out
        refine (swapRange_is base g off cap a1 m I N (p ++ A) X [] Y (B ++ q) w0 wr F (by simpa using hin) (by simp; omega) (by simp; omega) l1 l2 (by simp only [List.length_append, List.length_nil]; omega) hs).mono ?_
        rintro e' w' ⟨rfl, h'⟩
        refine ⟨rfl, Lib.hid ?_⟩
        have e2 : p ++ (y ++ (x ++ q)) = (p ++ A) ++ (Y ++ ([] ++ (X ++ (B ++ q)))) := by
          have : y ++ (x ++ q) = (y ++ x) ++ q := by simp
          rw [this, ← e]; simp
        rw [e2]; exact h'
      clear HR
      have q1 : ((I : Int) != (I : Int)) = false := by simp
      clear ha1
      go_wp2_with fail
      with_reducible refine (hc.out _).mono ?_
      rintro e' w' ⟨rfl, HF⟩
      go_wp2
      go_end0
      exact ⟨rfl, HF.out⟩
    · obtain ⟨i2, hi2⟩ : ∃ i2, i2 + J = I := ⟨I - J, by omega⟩
      have z3 : (I : Int) - (J : Int) = (i2 : Int) := by omega
      have hc : Hid (∀ F, Calls Tryz.prog 174 #[.slice (some ⟨g, off, none⟩) N cap, .int .i64 a1, .int .i64 m, .int .i64 J, F] wr fun e w' => e = .returned (.tuple #[]) ∧ Hid (∃ A X Y B, X.length = i2 ∧ Y.length = J ∧ p.length + A.length + i2 = m ∧ A ++ (Y ++ (X ++ B)) = y ++ x ∧ In base w0 g off (p ++ (A ++ (X ++ (Y ++ (B ++ q))))) w')) := Lib.hid fun F => by
        obtain ⟨A, X, Y, B, l1, l2, l3, e, hin⟩ := HR.out
        obtain ⟨X1, X2, rfl, k1, k2⟩ := cut_at l1 (j := J) (by omega)
        have hlen := congrArg List.length e
        simp only [List.length_append] at hlen
        have hxx := HX.out
        have hyy := HY.out
        have hNN := HN.out
        have hpp := HP.out
        refine (swapRange_is base g off cap a1 m J N (p ++ A) X1 X2 Y (B ++ q) w0 wr F (by simpa using hin) (by simp; omega) (by omega) k1 l2 (by simp only [List.length_append]; omega) hs).mono ?_
        rintro e' w' ⟨rfl, h'⟩
        refine ⟨rfl, Lib.hid ⟨A ++ Y, X2, X1, B, by omega, k1, by simp only [List.length_append]; omega, by rw [← e]; simp, by simpa using h'⟩⟩
      clear HR
      have q1 : ((I : Int) != (J : Int)) = true := by simp; omega
      have q2 : (J : Int) < (I : Int) := by omega
      clear ha1
      go_wp2_with fail
      with_reducible refine (hc.out _).mono ?_
      rintro e' w' ⟨rfl, HR'⟩
      go_wp2
      go_roundw
      case rel => exact ⟨i2, J, by go_num, rfl, by omega, hj, by omega, by rw [HP.out, HX.out, HY.out]; have := HM.out; have := HB.out; omega, HR'⟩
      case measure => simp [intOf]; omega
end Go.Proofs.YtipigfgnpfhdbaaGreatDoor.F
