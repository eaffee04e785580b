/- Slices that read as numbers, rows that a call owns, 'append' onto them, conversions between strings, bytes and characters. Of whatever program. -/
import Derived.Test.YthdggdjaicfapaaDoorMath
import Derived.WalkKit
import Derived.Below
import Derived.OpenShut
import Derived.Deep.AppendLies
import Derived.Deep.RegionLaw
import Derived.Deep.DrawnRows
import Derived.Deep.RegionHeld3
import Derived.Lib.Hide
import Derived.Lib.SlBytesConst
import Derived.Laws.AppendOwnNone
import Derived.Laws.Cover4
import Derived.Laws.RangeString
import Derived.Maps.AppendAt
import Derived.BigFrame
import Derived.BigQuiet
import Derived.BigRegion
import Derived.ArgAppend
import Derived.Lib.AppendStr
namespace Go.Proofs.YthdggdjaicfapaaDoor.U
open Go.RowKit
set_option linter.unusedVariables false

theorem ret_bool {a b : Bool} (h : a = b) : Ending.returned (.bool a) = .returned (.bool b) := by rw [h]
theorem ret_int {k : IntKind} {a b : Int} (h : a = b) : Ending.returned (.int k a) = .returned (.int k b) := by rw [h]

/-- Nothing that was there is changed. -/
def Bel (w w' : World) : Prop := Below w.heap.size w w'
theorem Bel.refl (w : World) : Bel w w := Below.refl _ _
theorem Bel.trans {a b c : World} (h : Bel a b) (k : Bel b c) : Bel a c := Below.trans h (Below.mono k (Below.size h))
theorem Bel.alloc {a w : World} (h : Bel a w) (o : Obj) : Bel a (w.alloc o) := Below.alloc h (Below.size h) o
theorem Bel.drew {a w : World} (h : Bel a w) : Bel a w.drew := Below.drew h
theorem Bel.drewN {a w : World} (h : Bel a w) (n : Nat) : Bel a (w.drewN n) := ⟨h.os, h.tape, h.output, h.size, h.block⟩

/-- A slice's place A holds the numbers l, in blocks below B. -/
def Rd (w : World) (B : Nat) (k : IntKind) (A : Option Addr) (l : List Int) : Prop :=
  ∀ i x, l[i]? = some x → ∃ g off, A = some ⟨g, off, none⟩ ∧ g < B ∧ w.cell? ⟨g, off + i, none⟩ = some (.int k x)

theorem Rd.below {w w' : World} {B : Nat} {k : IntKind} {A : Option Addr} {l : List Int} (h : Rd w B k A l) (hb : Below B w w') : Rd w' B k A l := fun i x hx => by
  obtain ⟨g, off, e, hg, hc⟩ := h i x hx
  exact ⟨g, off, e, hg, (hb.cell (p := ⟨g, off + i, none⟩) hg).trans hc⟩
theorem Rd.more {w : World} {B B' : Nat} {k : IntKind} {A : Option Addr} {l : List Int} (h : Rd w B k A l) (hb : B ≤ B') : Rd w B' k A l := fun i x hx => by
  obtain ⟨g, off, e, hg, hc⟩ := h i x hx
  exact ⟨g, off, e, by omega, hc⟩
theorem cell_block {w : World} {p : Addr} {v : Value} (h : w.cell? p = some v) : p.block < w.heap.size := by
  rcases Nat.lt_or_ge p.block w.heap.size with hlt | hge
  · exact hlt
  · exfalso
    simp [World.cell?, Array.getElem?_eq_none hge] at h
/-- A row reads as it did behind whatever changes nothing that was there. -/
theorem Rd.bel {w w' : World} {B : Nat} {k : IntKind} {A : Option Addr} {l : List Int} (h : Rd w B k A l) (hb : Bel w w') : Rd w' B k A l := fun i x hx => by
  obtain ⟨g, off, e, hg, hc⟩ := h i x hx
  exact ⟨g, off, e, hg, (Below.cell hb (p := ⟨g, off + i, none⟩) (cell_block hc)).trans hc⟩
theorem Rd.alloc {w : World} {B : Nat} {k : IntKind} {A : Option Addr} {l : List Int} (h : Rd w B k A l) (o : Obj) : Rd (w.alloc o) B k A l := h.bel ((Bel.refl _).alloc o)
theorem Rd.drewN {w : World} {B n : Nat} {kd : IntKind} {A : Option Addr} {l : List Int} (h : Rd w B kd A l) : Rd (w.drewN n) B kd A l := h
theorem Rd.here {w : World} {B : Nat} {k : IntKind} {A : Option Addr} {l : List Int} (h : Rd w B k A l) : Rd w w.heap.size k A l := fun i x hx => by
  obtain ⟨g, off, e, hg, hc⟩ := h i x hx
  exact ⟨g, off, e, cell_block hc, hc⟩
theorem Rd.drop {w : World} {B : Nat} {kd : IntKind} {g off k : Nat} {l : List Int} (h : Rd w B kd (some ⟨g, off, none⟩) l) : Rd w B kd (some ⟨g, off + k, none⟩) (l.drop k) := fun i x hx => by
  rw [List.getElem?_drop] at hx
  obtain ⟨g', off', e, hg, hc⟩ := h (k + i) x hx
  cases e
  exact ⟨g, off + k, rfl, hg, by rw [Nat.add_assoc]; exact hc⟩
theorem Rd.take {w : World} {B : Nat} {kd : IntKind} {A : Option Addr} {k : Nat} {l : List Int} (h : Rd w B kd A l) : Rd w B kd A (l.take k) := fun i x hx => by
  rw [List.getElem?_take] at hx
  split at hx
  · exact h i x hx
  · cases hx
theorem Rd.isSome {w : World} {B : Nat} {k : IntKind} {A : Option Addr} {l : List Int} (h : Rd w B k A l) (hl : 0 < l.length) : ∃ g off, A = some ⟨g, off, none⟩ ∧ g < B ∧ g < w.heap.size := by
  obtain ⟨g, off, e, hg, hc⟩ := h 0 l[0] (by simp)
  exact ⟨g, off, e, hg, cell_block hc⟩
theorem Rd.at {w : World} {B g off : Nat} {k : IntKind} {l : List Int} (h : Rd w B k (some ⟨g, off, none⟩) l) {i : Nat} {x : Int} (hx : l[i]? = Option.some x) : w.cell? ⟨g, off + i, none⟩ = Option.some (.int k x) := by
  obtain ⟨g', o', e, _, hc⟩ := h i x hx
  cases e
  exact hc
theorem Rd.nil {w : World} {B : Nat} {k : IntKind} {A : Option Addr} : Rd w B k A [] := fun i x hx => by simp at hx

theorem own_less {w : World} {base base' : Nat} {e : TypeId} {v : Value} {n : Nat} {xs : List Value} (h : w.ownsRow base e 1 v n xs) (hb : base' ≤ base) : w.ownsRow base' e 1 v n xs := by
  refine ⟨h.1, ?_⟩
  rcases h.2 with h | ⟨g, cap, cur, hv, hbg, rest⟩
  · exact .inl h
  · exact .inr ⟨g, cap, cur, hv, by omega, rest⟩
theorem own_keep {base : Nat} {w w' : World} {e : TypeId} {v : Value} {n : Nat} {xs : List Value} (h : w.ownsRow base e 1 v n xs) (hb : Below w.heap.size w w') : w'.ownsRow base e 1 v n xs := by
  refine ⟨h.1, ?_⟩
  rcases h.2 with h | ⟨g, cap, cur, hv, hbg, hg, rest⟩
  · exact .inl h
  · exact .inr ⟨g, cap, cur, hv, hbg, by rw [hb.block g (Array.getElem?_eq_some_iff.1 hg).1]; exact hg, rest⟩

/-- A row of numbers of the call's own. -/
def Own (w : World) (base : Nat) (e : TypeId) (k : IntKind) (v : Value) (l : List Int) : Prop := w.ownsRow base e 1 v l.length (l.map (Value.int k))
theorem Own.keep {w w' : World} {base : Nat} {e : TypeId} {k : IntKind} {v : Value} {l : List Int} (h : Own w base e k v l) (hb : Bel w w') : Own w' base e k v l := own_keep h hb
theorem Own.less {w : World} {base base' : Nat} {e : TypeId} {k : IntKind} {v : Value} {l : List Int} (h : Own w base e k v l) (hb : base' ≤ base) : Own w base' e k v l := own_less h hb
theorem Own.nil (w : World) (base : Nat) (e : TypeId) (k : IntKind) : Own w base e k (.slice none 0 0) [] := World.ownsRow_nil _ _ _ _
/-- It reads as a slice. -/
theorem Own.rd {w : World} {base : Nat} {e : TypeId} {k : IntKind} {v : Value} {l : List Int} (h : Own w base e k v l) :
    ∃ A cap, v = .slice A l.length cap ∧ l.length ≤ cap ∧ Rd w w.heap.size k A l ∧ (A = none → cap = 0) := by
  rcases h.2 with ⟨rfl, h0⟩ | ⟨g, cap, cur, rfl, hb, hg, hc, _, _, _⟩
  · refine ⟨none, 0, by rw [h0], by omega, fun i x hx => ?_, fun _ => rfl⟩
    have : l = [] := List.eq_nil_of_length_eq_zero h0
    subst this
    simp at hx
  · refine ⟨_, cap, rfl, hc, fun i x hx => ⟨g, 0, rfl, (Array.getElem?_eq_some_iff.1 hg).1, ?_⟩, fun e => by cases e⟩
    have := World.ownsRow.cells h (g := g) rfl i (.int k x) (by simp [hx])
    have hadd : (⟨g, 0, none⟩ : Addr).add i = ⟨g, 0 + i, none⟩ := by unfold Addr.add; split <;> simp_all
    rw [hadd] at this
    exact this
theorem Own.empty (w : World) (e : TypeId) (k : IntKind) : Own (w.alloc (.cells #[] e)) w.heap.size e k (.slice (some ⟨w.heap.size, 0, none⟩) 0 0) [] :=
  World.ownsRow_made w #[] 0 (Nat.le_refl _) (Nat.zero_le _) rfl

/-- What came in as a slice of numbers. -/
def Came (k : IntKind) (w : World) (a : Option Addr) (len cap : Nat) (l : List Int) : Prop :=
  l.length = len ∧ len ≤ cap ∧ Rd w w.heap.size k a l ∧ (a = none → cap = 0) ∧ ∀ x ∈ l, (Lit.int k x).wf = true

theorem addr_add (g off j : Nat) : (⟨g, off, none⟩ : Addr).add j = ⟨g, off + j, none⟩ := by unfold Addr.add; split <;> simp_all
theorem one_cells (k : IntKind) (l : List Int) : ∀ u ∈ l.map (Value.int k), u.oneCell' = true := fun u hu => by
  obtain ⟨x, _, rfl⟩ := List.mem_map.1 hu; rfl

theorem came_of {k : IntKind} {w : World} {a : Option Addr} {len cap : Nat} {zs : List Int}
    (h : (a = none ∧ len = 0 ∧ cap = 0 ∧ zs = []) ∨ ∃ x, a = some x ∧ len ≤ cap ∧ cap ≤ maxLen ∧ zs.length = cap ∧ (∀ i, i < zs.length → w.cell? (x.add i) = some (.int k (zs.getD i 0))) ∧ ∀ n ∈ zs, (Lit.int k n).wf = true) :
    ∃ l, Came k w a len cap l := by
  rcases h with ⟨rfl, rfl, rfl, rfl⟩ | ⟨x, rfl, hl, _, hz, hc, hw⟩
  · exact ⟨[], rfl, Nat.le_refl _, fun i x hx => by simp at hx, fun _ => rfl, by simp⟩
  · refine ⟨zs.take len, by simp; omega, hl, fun i y hy => ?_, (fun e => by cases e), fun y hy => hw y (List.mem_of_mem_take hy)⟩
    rw [List.getElem?_take] at hy
    split at hy
    · rename_i hi
      have h1 := hc i (by omega)
      have h2 : zs.getD i 0 = y := by simp [List.getD, hy]
      rw [h2] at h1
      have h3 := hc 0 (by omega)
      obtain ⟨b, o, sp⟩ := x
      have hsp : sp = none := by simpa [Addr.add] using World.cell?_spot h3
      subst hsp
      rw [addr_add] at h1
      exact ⟨b, o, rfl, cell_block h1, h1⟩
    · cases hy

section
variable {P : Program} {w : World}

/-- 'append' onto a row of the call's own, from a slice that reads as numbers, nil or not: the row is longer by these, and nothing below its base is changed. -/
theorem run_append {t ty e : TypeId} {base : Nat} {i : TypeInfo} {z : Value} {bytes : Nat} (ht : P.underlying t = some (.slice e)) (hi : P.info? e = some i) (hz : i.zero = some z)
    (hsize : i.size = 1) (hby : i.bytes = bytes) (hzs : z.cells.size = 1) (hb8 : bytes ≤ 8)
    {k : IntKind} {v : Value} {xs : List Int} (hown : Own w base e k v xs)
    {B : Nat} {A : Option Addr} {m c : Nat} {ys : List Int} (hr : Rd w B k A ys) (hm : ys.length = m) (hnil : A = none → c = 0)
    (hn : xs.length + m ≤ 100000) (hbase : base ≤ w.heap.size) :
    ∃ v' w', (Builtin.append_ #[t, t] ty #[v, .slice A m c]).run P w = .ok v' w' ∧ Own w' base e k v' (xs ++ ys) ∧ Below base w w' := by
  have h63 : xs.length + m ≤ maxLen := by simp only [maxLen]; omega
  have hbytes : (xs.length + m) * bytes ≤ 140737488355328 := Nat.le_trans (Nat.mul_le_mul hn hb8) (by decide)
  have fin : ∀ v' w', w'.ownsRow base e 1 v' (xs.length + m) (xs.map (Value.int k) ++ ys.map (Value.int k)) → w.grownBy w' v.ownBlock → Own w' base e k v' (xs ++ ys) ∧ Below base w w' := by
    intro v' w' h2 h3
    refine ⟨by unfold Own; simpa [hm] using h2, (Below.refl _ _).grown h3 hbase fun g hg => (World.ownsRow.lt hown g hg).1⟩
  rcases A with _ | ad
  · obtain rfl : c = 0 := hnil rfl
    have hy : ys = [] := by
      rcases ys with _ | ⟨y, ys⟩
      · rfl
      · obtain ⟨_, _, e, _⟩ := hr 0 y rfl
        cases e
    subst hy
    obtain rfl : m = 0 := by simpa using hm.symm
    exact ⟨v, w, run_append_owned_none w base t ty e i 1 ht hi v _ _ hown, by simpa using hown, Below.refl _ _⟩
  · have hnews : ∀ j u, (ys.map (Value.int k))[j]? = some u → w.cell? (ad.add j) = some u := by
      intro j u hu
      rw [List.getElem?_map] at hu
      obtain ⟨y, hy, rfl⟩ := Option.map_eq_some_iff.1 hu
      obtain ⟨g, off, e, _, hc⟩ := hr j y hy
      cases e
      rw [addr_add]; exact hc
    obtain ⟨v', w', h1, h2, h3, _⟩ := run_append_own_at (P := P) w base t ty e i z 1 bytes ht hi hz hsize hby hzs (by omega) v _ _ hown ad m c (ys.map (Value.int k)) (by simp [hm]) hnews (one_cells k ys) h63 hbytes hbase
    exact ⟨v', w', h1, fin v' w' h2 h3⟩

theorem wp_append {o : Oper} {a : Act} {K : Act → World → Prop} {Q : Exit → Act → World → Prop} (s x : Operand) (t : TypeId)
    (ho : o.op = .call { callee := .builtin .append, args := #[s, x], argTypes := #[t, t] })
    {e : TypeId} {base : Nat} {i : TypeInfo} {z : Value} {bytes : Nat} (ht : P.underlying t = some (.slice e)) (hi : P.info? e = some i) (hz : i.zero = some z)
    (hsize : i.size = 1) (hby : i.bytes = bytes) (hzs : z.cells.size = 1) (hb8 : bytes ≤ 8)
    {k : IntKind} {v : Value} {xs : List Int} (hown : Own w base e k v xs) (hs : a.eval s = v)
    {B : Nat} {A : Option Addr} {m c : Nat} {ys : List Int} (hr : Rd w B k A ys) (hx : a.eval x = .slice A m c) (hm : ys.length = m) (hnil : A = none → c = 0)
    (hn : xs.length + m ≤ 100000) (hbase : base ≤ w.heap.size)
    (h : ∀ v' w', Own w' base e k v' (xs ++ ys) → Below base w w' → K (a.put o.dst v') w') : o.wp P a w K Q := by
  obtain ⟨v', w', hrun, h2, h3⟩ := run_append (P := P) (ty := o.type) ht hi hz hsize hby hzs hb8 hown hr hm hnil hn hbase
  unfold Oper.wp execOp
  simp only [ho, resolve, invoke, builtin, Sem.run_bind, Sem.run_pure, Result.andThen_ok, List.map_toArray, List.map_cons, List.map_nil, hs, hx, hrun]
  exact h v' w' h2 h3

theorem wpl_append {ops : Array Oper} {rest : List Oper} {o : Oper} {a : Act} {Q : Exit → Act → World → Prop} (hw : Region.wanted o (yielded ops a.tmps) = true) (s x : Operand) (t : TypeId)
    (ho : o.op = .call { callee := .builtin .append, args := #[s, x], argTypes := #[t, t] })
    {e : TypeId} {base : Nat} {i : TypeInfo} {z : Value} {bytes : Nat} (ht : P.underlying t = some (.slice e)) (hi : P.info? e = some i) (hz : i.zero = some z)
    (hsize : i.size = 1) (hby : i.bytes = bytes) (hzs : z.cells.size = 1) (hb8 : bytes ≤ 8)
    {k : IntKind} {v : Value} {xs : List Int} (hown : Own w base e k v xs) (hs : a.eval s = v)
    {B : Nat} {A : Option Addr} {m c : Nat} {ys : List Int} (hr : Rd w B k A ys) (hx : a.eval x = .slice A m c) (hm : ys.length = m) (hnil : A = none → c = 0)
    (hn : xs.length + m ≤ 100000) (hbase : base ≤ w.heap.size)
    (h : ∀ v' w', Own w' base e k v' (xs ++ ys) → Below base w w' → wpList P ops Q rest (a.put o.dst v') w') : wpList P ops Q (o :: rest) a w :=
  BigFrame.wpList_want hw fun _ hK => wp_append s x t ho ht hi hz hsize hby hzs hb8 hown hs hr hx hm hnil hn hbase fun v' w' h2 h3 => hK _ _ (h v' w' h2 h3)
end

/-- Numbers as a string. -/
def bs (l : List Int) : List UInt8 := l.map fun x => UInt8.ofNat x.toNat
def str (l : List Int) : ByteArray := ⟨(bs l).toArray⟩
theorem bs_length (l : List Int) : (bs l).length = l.length := by simp [bs]
theorem str_size (l : List Int) : (str l).size = l.length := by simp [str, ByteArray.size, bs]
theorem bs_append (a b : List Int) : bs (a ++ b) = bs a ++ bs b := by simp [bs]
theorem toNat_of {x : Int} (h0 : 0 ≤ x) (h1 : x < 256) : (UInt8.ofNat x.toNat).toNat = x.toNat := by
  simp; omega
section
variable {P : Program}

/-- 'string(b)' of bytes. -/
theorem run_str_bytes (w : World) (src dst e : TypeId) (hs : P.underlying src = some (.slice e)) (he : P.underlying e = some (.int .u8)) (hd : P.underlying dst = some .string)
    {B : Nat} {g off n c : Nat} {l : List Int} (h : Rd w B .u8 (some ⟨g, off, none⟩) l) (hn : l.length = n) (hl : ∀ x ∈ l, 0 ≤ x ∧ x < 256) :
    (convert src dst (.slice (some ⟨g, off, none⟩) n c)).run P w = .ok (.string (str l)) w := by
  have e1 : n = (bs l).length := by rw [bs_length, hn]
  rw [e1]
  refine run_convert_bytes_back w src dst e ⟨g, off, none⟩ c (bs l) hs he hd fun j hj => ?_
  have hj' : j < l.length := by rwa [bs_length] at hj
  have := h.at (i := j) (x := l[j]) (List.getElem?_eq_getElem hj')
  rw [addr_add, this]
  simp only [bs, List.getElem_map]
  have hx := hl l[j] (List.getElem_mem hj')
  rw [toNat_of hx.1 hx.2]
  congr 2
  omega

/-- '[]byte(s)': read alone. -/
theorem run_bytes_str (w : World) (src dst e : TypeId) (hs : P.underlying src = some .string) (hd : P.underlying dst = some (.slice e)) (he : P.underlying e = some (.int .u8))
    {l : List Int} {n : Nat} (h : ∀ x ∈ l, 0 ≤ x ∧ x < 256) (hl : l.length = n) :
    ∃ cap w', (convert src dst (.string (str l))).run P w = .ok (.slice (some ⟨w.heap.size, 0, none⟩) n cap) w' ∧ Rd w' (w.heap.size + 1) .u8 (some ⟨w.heap.size, 0, none⟩) l ∧ Bel w w' := by
  have hrun := run_bytes_of_string (P := P) w src dst e (str l) hs hd he
  rw [str_size, hl] at hrun
  refine ⟨_, _, hrun, fun i x hx => ⟨w.heap.size, 0, rfl, Nat.lt_succ_self _, ?_⟩, (Bel.refl w).drew.alloc _⟩
  have h1 := World.cell?_alloc_mark w.drew (bytesRow (str l) (grownCap w n 0 e)) e ((bytesRow (str l) (grownCap w n 0 e)).size, (bytesRow (str l) (grownCap w n 0 e)).size + 1) i
  have hlt : i < l.length := (List.getElem?_eq_some_iff.1 hx).1
  have h2 := bytesRow_at (str l) (grownCap w n 0 e) i (by simp [str, bs]; exact hlt)
  rw [Nat.zero_add]
  refine h1.trans (h2.trans ?_)
  have hv : l[i] = x := (List.getElem?_eq_some_iff.1 hx).2
  have hb := h x (by rw [← hv]; exact List.getElem_mem hlt)
  simp only [str, bs, List.getElem_toArray, List.getElem_map, hv]
  rw [toNat_of hb.1 hb.2]
  congr 2
  omega

end
/-- A row to which one can append: the call's own, or one that is full. -/
def Ext (w : World) (base : Nat) (e : TypeId) (k : IntKind) (v : Value) (l : List Int) : Prop :=
  Own w base e k v l ∨ ∃ g off, v = .slice (some ⟨g, off, none⟩) l.length l.length ∧ Rd w w.heap.size k (some ⟨g, off, none⟩) l
theorem Ext.keep {w w' : World} {base : Nat} {e : TypeId} {k : IntKind} {v : Value} {l : List Int} (h : Ext w base e k v l) (hb : Bel w w') : Ext w' base e k v l := by
  rcases h with h | ⟨g, off, rfl, hr⟩
  · exact .inl (h.keep hb)
  · exact .inr ⟨g, off, rfl, (hr.bel hb).here⟩
theorem Ext.rd {w : World} {base : Nat} {e : TypeId} {k : IntKind} {v : Value} {l : List Int} (h : Ext w base e k v l) :
    ∃ A cap, v = .slice A l.length cap ∧ l.length ≤ cap ∧ Rd w w.heap.size k A l ∧ (A = none → cap = 0) := by
  rcases h with h | ⟨g, off, rfl, hr⟩
  · exact h.rd
  · exact ⟨_, _, rfl, Nat.le_refl _, hr, fun e => by cases e⟩

section
variable {P : Program} {w : World}
theorem run_append_ext {t ty e : TypeId} {base : Nat} {i : TypeInfo} {z : Value} {bytes : Nat} (ht : P.underlying t = some (.slice e)) (hi : P.info? e = some i) (hz : i.zero = some z)
    (hsize : i.size = 1) (hby : i.bytes = bytes) (hzs : z.cells.size = 1) (hb8 : bytes ≤ 8)
    {k : IntKind} {v : Value} {xs : List Int} (hext : Ext w base e k v xs)
    {B : Nat} {A : Option Addr} {m c : Nat} {ys : List Int} (hr : Rd w B k A ys) (hm : ys.length = m) (hm0 : 0 < m)
    (hn : xs.length + m ≤ 100000) (hbase : base ≤ w.heap.size) :
    ∃ v' w', (Builtin.append_ #[t, t] ty #[v, .slice A m c]).run P w = .ok v' w' ∧ Own w' base e k v' (xs ++ ys) ∧ Below base w w' := by
  obtain ⟨g1, o1, rfl, _, _⟩ := hr.isSome (by omega)
  rcases hext with hown | ⟨g, off, rfl, hr0⟩
  · exact run_append ht hi hz hsize hby hzs hb8 hown hr hm (fun e => by cases e) hn hbase
  · have h63 : xs.length + m ≤ maxLen := by simp only [maxLen]; omega
    have hbytes : (xs.length + m) * bytes ≤ 140737488355328 := Nat.le_trans (Nat.mul_le_mul hn hb8) (by decide)
    have cells : ∀ {B : Nat} {g o : Nat} {l : List Int}, Rd w B k (some ⟨g, o, none⟩) l → ∀ j u, (l.map (Value.int k))[j]? = some u → w.cell? ((⟨g, o, none⟩ : Addr).add j) = some u := by
      intro B g o l hl j u hu
      rw [List.getElem?_map] at hu
      obtain ⟨y, hy, rfl⟩ := Option.map_eq_some_iff.1 hu
      rw [addr_add]; exact hl.at hy
    obtain ⟨v', w', hrun, h2, h3⟩ := run_append_arg_grows (P := P) w t ty e i z 1 bytes ht hi hz hsize hby hzs (by omega) ⟨g, off, none⟩ xs.length xs.length (xs.map (Value.int k)) (by simp) (cells hr0) ⟨g1, o1, none⟩ m c (ys.map (Value.int k)) (by simp [hm]) (cells hr) (by omega) h63 hbytes
    refine ⟨v', w', hrun, ?_, (Below.refl _ _).grown h3 hbase (fun k e => by cases e)⟩
    have := own_less h2 hbase
    unfold Own
    simpa [hm] using this

theorem wpl_append_ext {ops : Array Oper} {rest : List Oper} {o : Oper} {a : Act} {Q : Exit → Act → World → Prop} (hw : Region.wanted o (yielded ops a.tmps) = true) (s x : Operand) (t : TypeId)
    (ho : o.op = .call { callee := .builtin .append, args := #[s, x], argTypes := #[t, t] })
    {e : TypeId} {base : Nat} {i : TypeInfo} {z : Value} {bytes : Nat} (ht : P.underlying t = some (.slice e)) (hi : P.info? e = some i) (hz : i.zero = some z)
    (hsize : i.size = 1) (hby : i.bytes = bytes) (hzs : z.cells.size = 1) (hb8 : bytes ≤ 8)
    {k : IntKind} {v : Value} {xs : List Int} (hown : Ext w base e k v xs) (hs : a.eval s = v)
    {B : Nat} {A : Option Addr} {m c : Nat} {ys : List Int} (hr : Rd w B k A ys) (hx : a.eval x = .slice A m c) (hm : ys.length = m) (hm0 : 0 < m)
    (hn : xs.length + m ≤ 100000) (hbase : base ≤ w.heap.size)
    (h : ∀ v' w', Own w' base e k v' (xs ++ ys) → Below base w w' → wpList P ops Q rest (a.put o.dst v') w') : wpList P ops Q (o :: rest) a w :=
  BigFrame.wpList_want hw fun _ hK => by
    obtain ⟨v', w', hrun, h2, h3⟩ := run_append_ext (P := P) (ty := o.type) (c := c) ht hi hz hsize hby hzs hb8 hown hr hm hm0 hn hbase
    unfold Oper.wp execOp
    simp only [ho, resolve, invoke, builtin, Sem.run_bind, Sem.run_pure, Result.andThen_ok, List.map_toArray, List.map_cons, List.map_nil, hs, hx, hrun]
    exact hK _ _ (h v' w' h2 h3)
end

theorem str_cells {l : List Int} (h : ∀ x ∈ l, 0 ≤ x ∧ x < 256) : Lib.strCells (str l) = l.map (Value.int .u8) := by
  unfold Lib.strCells str bs
  simp only [List.map_map]
  apply List.map_congr_left
  intro x hx
  have := h x hx
  simp only [Function.comp]
  rw [toNat_of this.1 this.2]
  congr 1
  omega

section
variable {P : Program} {w : World}
theorem run_append_str {t u ty e : TypeId} {base : Nat} {i : TypeInfo} (ht : P.underlying t = some (.slice e)) (hu : P.underlying u = some .string) (hi : P.info? e = some i) (hz : i.zero = some (.int .u8 0))
    (hsize : i.size = 1) (hby : i.bytes = 1)
    {v : Value} {xs ys : List Int} (hext : Ext w base e .u8 v xs) (hy : ∀ x ∈ ys, 0 ≤ x ∧ x < 256) (hm0 : 0 < ys.length)
    (hn : xs.length + ys.length ≤ 100000) (hbase : base ≤ w.heap.size) :
    ∃ v' w', (Builtin.append_ #[t, u] ty #[v, .string (str ys)]).run P w = .ok v' w' ∧ Own w' base e .u8 v' (xs ++ ys) ∧ Below base w w' := by
  rcases hext with hown | ⟨g, off, rfl, hr0⟩
  · obtain ⟨v', w', hr, h2, h3, _⟩ := Lib.run_append_own_string (P := P) w base t u ty e i ht hu hi hz hsize hby v _ _ hown (str ys) (by rw [str_size]; simp only [maxLen]; omega) (by rw [str_size]; omega) hbase
    refine ⟨v', w', hr, ?_, (Below.refl _ _).grown h3 hbase fun g hg => (World.ownsRow.lt hown g hg).1⟩
    rw [str_cells hy, str_size] at h2
    unfold Own
    simpa using h2
  · have cells : ∀ j u, (xs.map (Value.int .u8))[j]? = some u → w.cell? ((⟨g, off, none⟩ : Addr).add j) = some u := by
      intro j u hu
      rw [List.getElem?_map] at hu
      obtain ⟨y, hy, rfl⟩ := Option.map_eq_some_iff.1 hu
      rw [addr_add]; exact hr0.at hy
    have hr := Lib.run_append_grow_string (P := P) w t u ty e i (.int .u8 0) ht hu hi hz ⟨g, off, none⟩ xs.length xs.length (xs.map (Value.int .u8)) (by rw [hsize]; simp) cells (str ys) (by rw [str_size]; omega) (by rw [str_size]; omega) (by rw [hby]; exact growslice_fits (by rw [str_size]; omega) (by rw [str_size]; omega))
    rw [str_size, str_cells hy] at hr
    have hge := grownCap_ge w (xs.length + ys.length) xs.length e
    have hcm : grownCap w (xs.length + ys.length) xs.length e ≤ maxLen := grownCap_le_maxLen w _ _ e (by simp only [maxLen]; omega)
    refine ⟨_, _, hr, ⟨by simp, .inr ⟨w.heap.size, _, _, by simp, hbase, heap_alloc_new w.drew _, by simpa using hge, hcm, ?_, ?_⟩⟩, ((Below.refl _ _).drew).alloc hbase _⟩
    · have hz1 : (Value.int IntKind.u8 0).cells.size = 1 := rfl
      simp only [Array.size_append, List.size_toArray, size_zeroCells, hz1, List.length_map]
      omega
    · simp only [Array.toList_append, List.append_assoc]
      rw [← List.append_assoc, ← List.map_append, show ((xs ++ ys).length * 1) = ((xs ++ ys).map (Value.int .u8)).length by simp]
      exact List.take_left
theorem wpl_append_str {ops : Array Oper} {rest : List Oper} {o : Oper} {a : Act} {Q : Exit → Act → World → Prop} (hw : Region.wanted o (yielded ops a.tmps) = true) (s x : Operand) (t u : TypeId)
    (ho : o.op = .call { callee := .builtin .append, args := #[s, x], argTypes := #[t, u] })
    {e : TypeId} {base : Nat} {i : TypeInfo} (ht : P.underlying t = some (.slice e)) (hu : P.underlying u = some .string) (hi : P.info? e = some i) (hz : i.zero = some (.int .u8 0))
    (hsize : i.size = 1) (hby : i.bytes = 1)
    {v : Value} {xs ys : List Int} (hext : Ext w base e .u8 v xs) (hs : a.eval s = v) (hx : a.eval x = .string (str ys)) (hy : ∀ x ∈ ys, 0 ≤ x ∧ x < 256) (hm0 : 0 < ys.length)
    (hn : xs.length + ys.length ≤ 100000) (hbase : base ≤ w.heap.size)
    (h : ∀ v' w', Own w' base e .u8 v' (xs ++ ys) → Below base w w' → wpList P ops Q rest (a.put o.dst v') w') : wpList P ops Q (o :: rest) a w :=
  BigFrame.wpList_want hw fun _ hK => by
    obtain ⟨v', w', hrun, h2, h3⟩ := run_append_str (P := P) (ty := o.type) ht hu hi hz hsize hby hext hy hm0 hn hbase
    unfold Oper.wp execOp
    simp only [ho, resolve, invoke, builtin, Sem.run_bind, Sem.run_pure, Result.andThen_ok, List.map_toArray, List.map_cons, List.map_nil, hs, hx, hrun]
    exact hK _ _ (h v' w' h2 h3)
end
end Go.Proofs.YthdggdjaicfapaaDoor.U
