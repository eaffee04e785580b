/- What the splitter's add does: all that comes of a character is put behind what is apart already. -/
import Derived.Test.YtfgpgmfajjakpaaDoorParts
namespace Go.Proofs.YtfgpgmfajjakpaaDoor.U
open Go.RowKit
set_option linter.unusedVariables false

section
variable {P : Program} {w : World}
/-- 'append' onto a row of the call's own, and which block it may write. -/
theorem run_append_o {t ty e : TypeId} {base : Nat} {i : TypeInfo} {z : Value} {bytes : Nat} (ht : P.underlying t = some (.slice e)) (hi : P.info? e = some i) (hz : i.zero = some z)
    (hsize : i.size = 1) (hby : i.bytes = bytes) (hzs : z.cells.size = 1) (hb8 : bytes ≤ 8)
    {k : IntKind} {v : Value} {xs : List Int} (hown : Own w base e k v xs)
    {B g o : Nat} {m c : Nat} {ys : List Int} (hr : Rd w B k (some ⟨g, o, none⟩) ys) (hm : ys.length = m)
    (hn : xs.length + m ≤ 1099511627776) (hbase : base ≤ w.heap.size) :
    ∃ v' w', (Builtin.append_ #[t, t] ty #[v, .slice (some ⟨g, o, none⟩) m c]).run P w = .ok v' w' ∧ Own w' base e k v' (xs ++ ys) ∧ w.grownBy w' v.ownBlock ∧ (v'.ownBlock = v.ownBlock ∨ v'.ownBlock = some w.heap.size) := by
  have h63 : xs.length + m ≤ maxLen := by simp only [maxLen]; omega
  have hbytes : (xs.length + m) * bytes ≤ 140737488355328 := Nat.le_trans (Nat.mul_le_mul hn hb8) (by decide)
  have hnews : ∀ j u, (ys.map (Value.int k))[j]? = some u → w.cell? ((⟨g, o, none⟩ : Addr).add j) = some u := by
    intro j u hu
    rw [List.getElem?_map] at hu
    obtain ⟨y, hy, rfl⟩ := Option.map_eq_some_iff.1 hu
    rw [addr_add]; exact hr.at hy
  obtain ⟨v', w', h1, h2, h3, _, h5⟩ := run_append_own_at (P := P) w base t ty e i z 1 bytes ht hi hz hsize hby hzs (by omega) v _ _ hown ⟨g, o, none⟩ m c (ys.map (Value.int k)) (by simp [hm]) hnews (one_cells k ys) h63 hbytes hbase
  exact ⟨v', w', h1, by unfold Own; simpa [hm] using h2, h3, h5⟩
theorem wpl_append_o {ops : Array Oper} {rest : List Oper} {o : Oper} {a : Act} {Q : Exit → Act → World → Prop} (hw : Region.wanted o (yielded ops a.tmps) = true) (s x : Operand) (t : TypeId)
    (ho : o.op = .call { callee := .builtin .append, args := #[s, x], argTypes := #[t, t] })
    {e : TypeId} {base : Nat} {i : TypeInfo} {z : Value} {bytes : Nat} (ht : P.underlying t = some (.slice e)) (hi : P.info? e = some i) (hz : i.zero = some z)
    (hsize : i.size = 1) (hby : i.bytes = bytes) (hzs : z.cells.size = 1) (hb8 : bytes ≤ 8)
    {k : IntKind} {v : Value} {xs : List Int} (hown : Own w base e k v xs) (hs : a.eval s = v)
    {B g off : Nat} {m c : Nat} {ys : List Int} (hr : Rd w B k (some ⟨g, off, none⟩) ys) (hx : a.eval x = .slice (some ⟨g, off, none⟩) m c) (hm : ys.length = m)
    (hn : xs.length + m ≤ 1099511627776) (hbase : base ≤ w.heap.size)
    (h : ∀ v' w', Own w' base e k v' (xs ++ ys) → w.grownBy w' v.ownBlock → (v'.ownBlock = v.ownBlock ∨ v'.ownBlock = some w.heap.size) → wpList P ops Q rest (a.put o.dst v') w') : wpList P ops Q (o :: rest) a w :=
  BigFrame.wpList_want hw fun _ hK => by
    obtain ⟨v', w', hrun, h2, h4, h5⟩ := run_append_o (P := P) (ty := o.type) (c := c) ht hi hz hsize hby hzs hb8 hown hr hm hn hbase
    unfold Oper.wp execOp
    simp only [ho, resolve, invoke, builtin, Sem.run_bind, Sem.run_pure, Result.andThen_ok, List.map_toArray, List.map_cons, List.map_nil, hs, hx, hrun]
    exact hK _ _ (h v' w' h2 h4 h5)
end

theorem byteOf_is {w : World} {B : Nat} {v : Value} (h : w.heap[B]? = some (.cells #[v] 38 (0, 0))) : (byteOf ⟨B, 0, none⟩).run Tryd.prog w = .ok 0 w := by
  have hc : Tryd.prog.cellsOf 38 = 1 := by kernel_rfl
  have hb : byteOfCell Tryd.prog Tryd.prog.depth 38 0 = some 0 := by kernel_rfl
  simp [byteOf, noView, viewAt, World.shape?, h, hc, hb]
/-- The table, which has no cells, lies where the splitter lies. -/
theorem part_is {w : World} {B : Nat} {v : Value} (h : w.heap[B]? = some (.cells #[v] 38 (0, 0))) : (partAt ⟨B, 0, none⟩ 0 0).run Tryd.prog w = .ok ⟨B, 0, none⟩ w := by
  unfold partAt
  simp [byteOf_is h]
/-- The splitter lies in block B and holds v, a row of its own. -/
def Spt (B : Nat) (w : World) (v : Value) (l : List Int) : Prop := w.heap[B]? = some (.cells #[v] 38 (0, 0)) ∧ Own w (B + 1) 21 .i32 v l
theorem Spt.cell {B : Nat} {w : World} {v : Value} {l : List Int} (h : Spt B w v l) : w.cell? ⟨B, 0, none⟩ = some v := by simp [World.cell?, h.1]
theorem Spt.free {B : Nat} {w : World} {v : Value} {l : List Int} (h : Spt B w v l) : w.frozen? ⟨B, 0, none⟩ = false := by simp [World.frozen?, h.1]
theorem Spt.lt {B : Nat} {w : World} {v : Value} {l : List Int} (h : Spt B w v l) : B < w.heap.size := (Array.getElem?_eq_some_iff.1 h.1).1
/-- Nothing but the splitter and its row is changed; a new row lies in a block of its own. -/
def Fr (B : Nat) (w : World) (v : Value) (w' : World) (v' : Value) : Prop :=
  w'.os = w.os ∧ w'.tape = w.tape ∧ w'.output = w.output ∧ w.heap.size ≤ w'.heap.size ∧ ∀ G, G < w.heap.size → G ≠ B → v.ownBlock ≠ some G → (w'.heap[G]? = w.heap[G]? ∧ v'.ownBlock ≠ some G)
theorem Fr.trans {B : Nat} {w w' w'' : World} {v v' v'' : Value} (h : Fr B w v w' v') (k : Fr B w' v' w'' v'') : Fr B w v w'' v'' := by
  obtain ⟨h1, h2, h3, h4, h5⟩ := h
  obtain ⟨k1, k2, k3, k4, k5⟩ := k
  refine ⟨k1.trans h1, k2.trans h2, k3.trans h3, Nat.le_trans h4 k4, fun G hG hB hv => ?_⟩
  obtain ⟨a1, a2⟩ := h5 G hG hB hv
  obtain ⟨b1, b2⟩ := k5 G (Nat.lt_of_lt_of_le hG h4) hB a2
  exact ⟨b1.trans a1, b2⟩
theorem Fr.bel {B : Nat} {w w' : World} (v : Value) (h : Bel w w') : Fr B w v w' v := ⟨h.os, h.tape, h.output, h.size, fun G hG _ hv => ⟨h.block G hG, hv⟩⟩
theorem Fr.refl (B : Nat) (w : World) (v : Value) : Fr B w v w v := Fr.bel v (Bel.refl w)
theorem own_block {w : World} {base : Nat} {v : Value} {l : List Int} (h : Own w base 21 .i32 v l) {g : Nat} (hg : v.ownBlock = some g) : base ≤ g ∧ g < w.heap.size := World.ownsRow.lt h g hg
theorem Fr.below {B : Nat} {w w' : World} {v v' : Value} {l : List Int} (h : Fr B w v w' v') (hs : Spt B w v l) : Below B w w' := by
  obtain ⟨h1, h2, h3, h4, h5⟩ := h
  refine ⟨h1, h2, h3, h4, fun k hk => ?_⟩
  exact (h5 k (Nat.lt_trans hk hs.lt) (by omega) fun e => by have := (own_block hs.2 e).1; omega).1
theorem Spt.bel {B : Nat} {w w' : World} {v : Value} {l : List Int} (h : Spt B w v l) (hb : Bel w w') : Spt B w' v l :=
  ⟨by rw [hb.block B h.lt]; exact h.1, h.2.keep hb⟩
/-- A row that is not the splitter's reads as it did. -/
theorem Fr.rd {B : Nat} {w w' : World} {v v' : Value} {A : Option Addr} {l : List Int} {C : Nat} (h : Fr B w v w' v') (hr : Rd w C .i32 A l) (hB : ∀ a, A = some a → a.block ≠ B) (hv : ∀ a, A = some a → v.ownBlock ≠ some a.block) : Rd w' C .i32 A l := fun i x hx => by
  obtain ⟨g, off, rfl, hg, hc⟩ := hr i x hx
  refine ⟨g, off, rfl, hg, ?_⟩
  have h5 := (h.2.2.2.2 g (cell_block hc) (hB _ rfl) (hv _ rfl)).1
  simp only [World.cell?, h5]
  exact hc
theorem own_set {w : World} {base B : Nat} {v u : Value} {l : List Int} (h : Own w base 21 .i32 v l) (hB : B < base) : Own (w.setCell ⟨B, 0, none⟩ u) base 21 .i32 v l := by
  refine ⟨h.1, ?_⟩
  rcases h.2 with h | ⟨g, cap, cur, hv, hbg, hg, rest⟩
  · exact .inl h
  · exact .inr ⟨g, cap, cur, hv, hbg, by rw [Below.heap_setCell _ _ _ _ (by show g ≠ B; omega)]; exact hg, rest⟩
theorem add_block {w w2 : World} {B : Nat} {v : Value} {l : List Int} (h : Spt B w v l) (hg : w.grownBy w2 v.ownBlock) : w2.heap[B]? = some (.cells #[v] 38 (0, 0)) :=
  (hg.block B h.lt fun e => by have := (own_block h.2 e.symm).1; omega).trans h.1
theorem set_block {w : World} {B : Nat} {v : Value} (h : w.heap[B]? = some (.cells #[v] 38 (0, 0))) (u : Value) : (w.setCell ⟨B, 0, none⟩ u).heap[B]? = some (.cells #[u] 38 (0, 0)) := by
  simp [World.setCell, Array.getElem?_modify, h]
theorem add_frame {w w2 : World} {B : Nat} {v v2 : Value} {l : List Int} (h : Spt B w v l) (hg : w.grownBy w2 v.ownBlock) (hv : v2.ownBlock = v.ownBlock ∨ v2.ownBlock = some w.heap.size) (u : Value) : Fr B w v (w2.setCell ⟨B, 0, none⟩ u) v2 := by
  obtain ⟨h1, h2, h3, h4, h5⟩ := hg
  refine ⟨h1, h2, h3, by simpa using h4, fun G hG hB hne => ⟨?_, ?_⟩⟩
  · rw [Below.heap_setCell _ _ _ _ (by exact hB)]
    exact h5 G hG fun e => hne e.symm
  · rcases hv with e | e
    · rw [e]; exact hne
    · rw [e]; intro e'; have := Option.some.inj e'; omega
/-- What is put behind what is apart already. -/
def AddPost (B : Nat) (w : World) (v : Value) (l : List Int) (e : Ending) (w' : World) : Prop := e = .returned (.tuple #[]) ∧ ∃ v', Spt B w' v' l ∧ Fr B w v w' v'

set_option maxHeartbeats 2000000 in
theorem add_free (B : Nat) (c : Int) (l : List Int) (v : Value) (w : World) (hs : Spt B w v l) (hp : pts c = []) (hn : l.length + 1 ≤ 1099511627776) :
    Calls Tryd.prog 16 #[.pointer (some ⟨B, 0, none⟩), .int .i32 c] w (AddPost B w v (l ++ [c])) := by
  obtain ⟨i0, hi0, hz0, hz1, hz2⟩ := info_parts info21
  have HP := Lib.hid (parts_give c 0 w (by rw [hp]; rfl))
  rw [hp] at HP
  obtain ⟨k, hk⟩ : ∃ k, l.length = k := ⟨_, rfl⟩
  obtain ⟨A, cap, rfl, _, _, _⟩ := hs.2.rdn hk
  have hpt := part_is hs.1
  have HS := Lib.hid hs
  have HK := Lib.hid hk
  clear hs hp hk
  go_enter Tryd.func16, Tryd.ntmps16
  go_wp2_with fail
  with_reducible refine HP.out.mono ?_
  rintro e w1 ⟨v1, rfl, _, hown1, hb1⟩
  obtain ⟨A1, cap1, rfl, _, _, _⟩ := hown1.rdn (n := 0) rfl
  have hs1 := HS.out.bel hb1
  have c1 := hs1.cell
  have HR := Lib.hid (rd_lit_at (w := w1) (cs := #[.int .i32 c]) (t := 21) (k := .i32) (l := [c]) rfl rfl)
  have hs2 := hs1.bel ((Bel.refl w1).alloc (.cells #[.int .i32 c] 21))
  have HO := Lib.hid hs2.2
  have HS2 := Lib.hid hs2
  have HB1 := Lib.hid (show Bel w (w1.alloc (.cells #[.int .i32 c] 21)) from hb1.alloc _)
  have hsz : B + 1 ≤ (w1.alloc (.cells #[.int .i32 c] 21)).heap.size := hs2.lt
  have c2 : (w1.alloc (.cells #[.int .i32 c] 21)).cell? ⟨B, 0, none⟩ = some (.slice A k cap) := hs2.cell
  clear hpt hown1 hb1 hs1 HP hs2
  go_wp2_with (first | (at_builtin; refine wpl_append_o (by rfl) (.tmp 20) (.tmp 22) 22 rfl Tryd.underlying22 hi0 hz0 hz1 hz2 rfl (by omega) HO.out rfl HR.out rfl rfl (by simpa using hn) hsz ?_; intro v2 w2 hown2 hg2 hv2; obtain ⟨A2, cap2, rfl, -, -, -⟩ := hown2.rdn (n := k + 1) (by rw [List.length_append, HK.out]; rfl); have hblk := add_block HS2.out hg2; have c3 : w2.cell? ⟨B, 0, none⟩ = some (.slice A k cap) := (by simp [World.cell?, hblk]); have f3 : w2.frozen? ⟨B, 0, none⟩ = false := (by simp [World.frozen?, hblk])) | fail)
  go_loopw [28] (fun i wr => i = .int .i64 0 ∧ wr = w2.setCell ⟨B, 0, none⟩ (.slice A2 (k + 1) cap2)) (fun _ _ => 0)
  case atStart => exact ⟨rfl, rfl⟩
  case round =>
    obtain ⟨rfl, rfl⟩ := hrel
    have hF : Hid (∃ v', Spt B (w2.setCell ⟨B, 0, none⟩ (.slice A2 (k + 1) cap2)) v' (l ++ [c]) ∧ Fr B w (.slice A k cap) (w2.setCell ⟨B, 0, none⟩ (.slice A2 (k + 1) cap2)) v') := Lib.hid ⟨_, ⟨set_block hblk _, own_set hown2 (by omega)⟩, (Fr.bel _ HB1.out).trans (add_frame HS2.out hg2 hv2 _)⟩
    clear hblk c3 f3 hown2 hg2 hv2 c1 c2 hsz HO HR HS2 HB1 HS
    go_wp2
    go_end0
    exact ⟨rfl, hF.out⟩

def AddRel (B : Nat) (w1 : World) (v : Value) (l ps : List Int) (n : Nat) (i : Value) (w : World) : Prop :=
  ∃ k : Nat, i = .int .i64 k ∧ k ≤ n ∧ Hid (∃ v', Spt B w v' (l ++ apL (ps.take k)) ∧ Fr B w1 v w v')
set_option maxHeartbeats 2000000 in
theorem add_split (B n : Nat) (c : Int) (l ps : List Int) (v : Value) (w : World) (hs : Spt B w v l) (hps : pts c = ps) (hlen : ps.length = n) (hn0 : 0 < n) (hn3 : n ≤ 1000)
    (IH : ∀ p ∈ ps, ∀ l v w, Spt B w v l → l.length + (ap p).length ≤ 1099511627776 → Calls Tryd.prog 16 #[.pointer (some ⟨B, 0, none⟩), .int .i32 p] w (AddPost B w v (l ++ ap p)))
    (hn : l.length + (apL ps).length ≤ 1099511627776) :
    Calls Tryd.prog 16 #[.pointer (some ⟨B, 0, none⟩), .int .i32 c] w (AddPost B w v (l ++ apL ps)) := by
  have HP := Lib.hid (parts_give c n w (by rw [hps]; exact hlen))
  rw [hps] at HP
  have hpt := part_is hs.1
  have HS := Lib.hid hs
  have HIH := Lib.hid IH
  have HL := Lib.hid hlen
  clear hs hps IH hlen
  go_enter Tryd.func16, Tryd.ntmps16
  go_wp2_with fail
  with_reducible refine HP.out.mono ?_
  rintro e w1 ⟨v1, rfl, hl1, hown1, hb1⟩
  obtain ⟨A1, cap1, rfl, _, hrd, _⟩ := hown1.rdn hl1
  obtain ⟨G, off, rfl, _, _⟩ := hrd.isSome (by omega)
  have hG := own_block hown1 (g := G) rfl
  have hGB : G ≠ B := by have := HS.out.lt; omega
  have hGv : v.ownBlock ≠ some G := fun e => by have := (own_block HS.out.2 e).2; omega
  have HRD := Lib.hid hrd
  have HB1 := Lib.hid hb1
  have HGG : Hid (G ≠ B ∧ v.ownBlock ≠ some G) := Lib.hid ⟨hGB, hGv⟩
  have HS1 := Lib.hid (HS.out.bel hb1)
  have q0 : ((n : Int) == 0) = false := by simp; omega
  clear hpt hl1 hown1 hb1 hrd hG hGB hGv HP
  go_wp2
  go_loopw [28] (fun i wr => AddRel B w1 v l ps n i wr) (fun i _ => n - (intOf i).toNat)
  case atStart => exact ⟨0, rfl, Nat.zero_le _, Lib.hid ⟨v, by simpa [apL] using HS1.out, Fr.refl _ _ _⟩⟩
  case round =>
    obtain ⟨k, rfl, hk, HK⟩ := hrel
    by_cases hlt : k < n
    · obtain ⟨p, hp⟩ : ∃ p, ps[k]? = some p := ⟨ps[k]'(by rw [HL.out]; exact hlt), by simp⟩
      obtain ⟨v', hs', hf'⟩ := HK.out
      have hrd' := hf'.rd HRD.out (by intro a e; cases e; exact HGG.out.1) (by intro a e; cases e; exact HGG.out.2)
      have hc := hrd'.at hp
      have hap : apL (ps.take (k + 1)) = apL (ps.take k) ++ ap p := by rw [List.take_add_one, hp, Option.toList_some, apL_append, apL_cons, apL_nil, List.append_nil]
      have hbnd : (l ++ apL (ps.take k)).length + (ap p).length ≤ 1099511627776 := by
        have h1 : apL ps = apL (ps.take (k + 1)) ++ apL (ps.drop (k + 1)) := by rw [← apL_append, List.take_append_drop]
        have h2 := congrArg List.length h1
        rw [hap] at h2
        simp only [List.length_append] at h2 ⊢
        omega
      have HC := Lib.hid (HIH.out p (List.mem_of_getElem? hp) _ v' wr hs' hbnd)
      have HV : Hid (∀ w' v'', Spt B w' v'' (l ++ apL (ps.take k) ++ ap p) → Fr B wr v' w' v'' → AddRel B w1 v l ps n (.int .i64 ((k : Int) + 1)) w') := Lib.hid fun w' v'' h1 h2 =>
        ⟨k + 1, by go_num, by omega, Lib.hid ⟨v'', by rw [hap, ← List.append_assoc]; exact h1, hf'.trans h2⟩⟩
      have q1 : (0 : Int) ≤ (k : Int) := by omega
      have q2 : (k : Int) < (n : Int) := by omega
      clear hp hs' hf' hrd' hap hbnd HK
      go_wp2_with fail
      with_reducible refine HC.out.mono ?_
      rintro e w2 ⟨rfl, v'', h1, h2⟩
      have HW := Lib.hid (HV.out w2 v'' h1 h2)
      clear h1 h2 HC HV
      go_wp2
      go_roundw
      case rel => exact HW.out
      case measure => simp [intOf]; omega
    · have hF : Hid (∃ v', Spt B wr v' (l ++ apL ps) ∧ Fr B w v wr v') := Lib.hid (by
        obtain ⟨v', hs', hf'⟩ := HK.out
        rw [List.take_of_length_le (by rw [HL.out]; omega)] at hs'
        exact ⟨v', hs', (Fr.bel v HB1.out).trans hf'⟩)
      have q2 : ¬ (k : Int) < (n : Int) := by omega
      clear HK
      go_wp2
      go_end0
      exact ⟨rfl, hF.out⟩

theorem add_all (B : Nat) : ∀ (m : Nat) (c : Int), mu c ≤ m → ∀ (l : List Int) (v : Value) (w : World), Spt B w v l → l.length + (ap c).length ≤ 1099511627776 →
    Calls Tryd.prog 16 #[.pointer (some ⟨B, 0, none⟩), .int .i32 c] w (AddPost B w v (l ++ ap c)) := by
  intro m
  induction m with
  | zero =>
    intro c hc l v w hs hn
    have hp : pts c = [] := Classical.byContradiction fun h => by obtain ⟨k, hk⟩ := mu_not h; omega
    rw [ap_free hp] at hn ⊢
    exact add_free B c l v w hs hp hn
  | succ m ih =>
    intro c hc l v w hs hn
    by_cases hp : pts c = []
    · rw [ap_free hp] at hn ⊢
      exact add_free B c l v w hs hp hn
    · rw [ap_split hp] at hn ⊢
      have hl3 : (pts c).length ≤ 3 := by
        rcases pts_ways c with ⟨t, _, _, ⟨_, e⟩ | ⟨_, e⟩⟩ | ⟨e, _⟩ | ⟨e, _⟩
        · rw [e]; simp
        · rw [e]; simp
        · rw [e]; exact (parts_len c).1
        · rw [e]; simp
      exact add_split B _ c l (pts c) v w hs rfl rfl (List.length_pos_iff.2 hp) (by omega) (fun p hpm l v w h1 h2 => ih p (by have := mu_lt hpm; omega) l v w h1 h2) hn
theorem add_is (B : Nat) (c : Int) (l : List Int) (v : Value) (w : World) (hs : Spt B w v l) (hn : l.length + (ap c).length ≤ 1099511627776) :
    Calls Tryd.prog 16 #[.pointer (some ⟨B, 0, none⟩), .int .i32 c] w (AddPost B w v (l ++ ap c)) := add_all B (mu c) c (Nat.le_refl _) l v w hs hn
end Go.Proofs.YtfgpgmfajjakpaaDoor.U
