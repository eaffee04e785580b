/- What utf.Encode answers: the bytes of scalars, or which one is none. At most 10000 of them. -/
import Derived.Test.YtambempcicakgaaAdd
namespace Go.Proofs.Ytambempcicakgaa.U
open Go.RowKit

/-- A slice's place A holds the numbers l, in blocks below B. -/
def Rd (w : World) (B : Nat) (k : IntKind) (A : Option Addr) (l : List Int) : Prop :=
  ∀ i x, l[i]? = some x → ∃ g off, A = some ⟨g, off, none⟩ ∧ g < B ∧ w.cell? ⟨g, off + i, none⟩ = some (.int k x)

theorem Rd.below {w w' : World} {B : Nat} {k : IntKind} {A : Option Addr} {l : List Int} (h : Rd w B k A l) (hb : Below B w w') : Rd w' B k A l := fun i x hx => by
  obtain ⟨g, off, e, hg, hc⟩ := h i x hx
  exact ⟨g, off, e, hg, (hb.cell (p := ⟨g, off + i, none⟩) hg).trans hc⟩
theorem Rd.more {w : World} {B B' : Nat} {k : IntKind} {A : Option Addr} {l : List Int} (h : Rd w B k A l) (hb : B ≤ B') : Rd w B' k A l := fun i x hx => by
  obtain ⟨g, off, e, hg, hc⟩ := h i x hx
  exact ⟨g, off, e, by omega, hc⟩

theorem own_less {w : World} {base base' : Nat} {e : TypeId} {v : Value} {n : Nat} {xs : List Value} (h : w.ownsRow base e 1 v n xs) (hb : base' ≤ base) : w.ownsRow base' e 1 v n xs := by
  refine ⟨h.1, ?_⟩
  rcases h.2 with h | ⟨g, cap, cur, hv, hbg, rest⟩
  · exact .inl h
  · exact .inr ⟨g, cap, cur, hv, by omega, rest⟩

def Enc2 (w0 : World) (l : List Int) (e : Ending) (w : World) : Prop :=
  ∃ v out E, ∃ n : Nat, e = .returned (.tuple #[v, .agg #[.int .i64 E, .int .i64 n]]) ∧ Encoded l out E n ∧ w.ownsRow w0.heap.size 5 1 v out.length (cs8 out) ∧ Below w0.heap.size w0 w

def EncRel (w0 w1 : World) (l : List Int) (b i : Value) (w : World) : Prop :=
  ∃ k : Nat, k ≤ l.length ∧ i = .int .i64 k ∧ AllSc (l.take k) ∧ Mine (w0.heap.size + 1) w1 b (encAll (l.take k)) w

theorem Mine.restart {base : Nat} {w0 w : World} {v : Value} {l : List Int} (h : Mine base w0 v l w) : Mine base w v l w := ⟨h.1, Below.refl _ _, h.2.2⟩
theorem enc_small {l : List Int} {k : Nat} (hn : l.length ≤ 10000) : (encAll (l.take k)).length ≤ 65536 := by
  have h1 := encAll_length (l.take k)
  have h2 := List.length_take_le k l
  have h3 : (l.take k).length ≤ l.length := by simp; omega
  omega
theorem take_snoc {l : List Int} {k : Nat} {x : Int} (h : l[k]? = some x) : l.take (k + 1) = l.take k ++ [x] := by
  rw [List.take_add_one, h]; rfl
theorem EncStep1 {l : List Int} {k : Nat} {x : Int} (h : l[k]? = some x) (ha : AllSc (l.take k)) (hs : scB x = true) : AllSc (l.take (k + 1)) := by
  rw [take_snoc h]
  intro r hr
  rcases List.mem_append.1 hr with h1 | h1
  · exact ha r h1
  · rw [List.mem_singleton.1 h1]; exact hs
theorem EncStep2 {base : Nat} {w1 wr w' : World} {b v' : Value} {l : List Int} {k : Nat} {x : Int} (h : l[k]? = some x) (hm : Mine base w1 b (encAll (l.take k)) wr)
    (hM : Mine base wr v' (encAll (l.take k) ++ enc1 x) w') : Mine base w1 v' (encAll (l.take (k + 1))) w' := by
  rw [take_snoc h, encAll_snoc]
  exact ⟨hM.1, hm.2.1.trans hM.2.1, hM.2.2⟩
theorem encoded_no {l : List Int} {k : Nat} {x : Int} (h : l[k]? = some x) (ha : AllSc (l.take k)) (hs : scB x = false) : Encoded l [] 2 k := by
  obtain ⟨hk, hx⟩ := List.getElem?_eq_some_iff.1 h
  refine .inr ⟨rfl, rfl, l.take k, x, l.drop (k + 1), ha, hs, ?_, by simp; omega⟩
  rw [← hx, ← List.drop_eq_getElem_cons hk, List.take_append_drop]

/-- Two stores into the call's own block change nothing below it. -/
theorem EncBelow {w wr : World} {o : Obj} {b : Value} {l : List Int} {x y : Value} (hm : Mine (w.heap.size + 1) (w.alloc o) b l wr) :
    Below w.heap.size w ((wr.setCell ⟨w.heap.size, 0, none⟩ x).setCell ⟨w.heap.size, 1, none⟩ y) :=
  ((((Below.refl _ _).alloc (Nat.le_refl _) o).trans (hm.2.1.mono (Nat.le_succ _))).setCell (Nat.le_refl _) x).setCell (Nat.le_refl _) y

set_option maxHeartbeats 1000000 in
theorem encode_any (A : Option Addr) (l : List Int) (c : Nat) (w : World) (h : Rd w w.heap.size .i32 A l) (hn : l.length ≤ 10000) :
    Calls Try.prog 14 #[.slice A l.length c] w (Enc2 w l) := by
  go_enter Try.func14, Try.ntmps14
  go_wp2
  go_loopw [4, 9] (fun b i wr => EncRel w (w.alloc (.cells #[.int .i64 0, .int .i64 0] 27)) l b i wr) (fun _ i _ => l.length - (intOf i).toNat)
  case atStart => exact ⟨0, Nat.zero_le _, rfl, by simp [AllSc], ⟨World.ownsRow_nil _ _ _ _, Below.refl _ _, by simp⟩⟩
  case round =>
    obtain ⟨k, hk, rfl, ha, hm⟩ := hrel
    have hbel := hm.2.1
    have hbs := hm.2.2
    have hc0 : wr.cell? ⟨w.heap.size, 0, none⟩ = some (.int .i64 0) := by
      rw [hbel.cell (p := ⟨w.heap.size, 0, none⟩) (by simp)]; simp
    have hc1 : wr.cell? ⟨w.heap.size, 1, none⟩ = some (.int .i64 0) := by
      rw [hbel.cell (p := ⟨w.heap.size, 1, none⟩) (by simp)]; simp
    have hf0 : wr.frozen? ⟨w.heap.size, 0, none⟩ = false := by
      rw [hbel.frozen (p := ⟨w.heap.size, 0, none⟩) (by simp)]; simp
    have hf1 : wr.frozen? ⟨w.heap.size, 1, none⟩ = false := by
      rw [hbel.frozen (p := ⟨w.heap.size, 1, none⟩) (by simp)]; simp
    by_cases hlt : k < l.length
    · obtain ⟨x, hx⟩ : ∃ x, l[k]? = some x := ⟨l[k], by simp [hlt]⟩
      obtain ⟨g, off, rfl, hg, hc⟩ := h k x hx
      have hc' : wr.cell? ⟨g, off + k, none⟩ = some (.int .i32 x) := by
        rw [hbel.cell (p := ⟨g, off + k, none⟩) (by simp; omega), World.cell?_alloc_lt _ _ _ (by simpa using hg)]; exact hc
      have HX := Lib.hid hx
      have HH := Lib.hid h
      clear hx h hc
      by_cases hs : scB x = true
      · go_wp2_with (first
          | (go_at_call 17; (with_reducible refine (scalar_is _ true _ hs).mono ?_); rintro e w' ⟨rfl, rfl⟩)
          | (go_at_call 23; (with_reducible refine (add_any x _ (w.heap.size + 1) _ _ hs (Mine.restart hm) (enc_small hn)).mono ?_); rintro e w' ⟨v', rfl, hM⟩))
        go_roundw
        case rel => exact ⟨k + 1, by omega, by go_num, EncStep1 HX.out ha hs, EncStep2 HX.out hm hM⟩
        case measure => simp [intOf]; omega
      · have hs' : scB x = false := by simpa using hs
        go_wp2_with (first
          | (go_at_call 17; (with_reducible refine (scalar_is _ false _ hs').mono ?_); rintro e w' ⟨rfl, rfl⟩))
        refine bodyPost_ret (v := .tuple #[.slice none 0 0, .agg #[.int .i64 2, .int .i64 k]]) (by simp [results, Try.results14, go_sem, hc0, hc1]) rfl ?_
        exact ⟨_, [], 2, k, rfl, encoded_no HX.out ha hs', World.ownsRow_nil _ _ _ _, EncBelow hm⟩
    · obtain rfl : k = l.length := by omega
      go_wp2
      refine bodyPost_ret (v := .tuple #[_, .agg #[.int .i64 0, .int .i64 (0 : Nat)]]) (by simp [results, Try.results14, go_sem, hc0, hc1]; rfl) rfl ?_
      refine ⟨_, encAll l, 0, 0, rfl, ?_, ?_, ?_⟩
      · exact .inl ⟨rfl, rfl, by simpa using ha, rfl⟩
      · have := hm.1
        rw [List.take_length] at this
        exact ownsRow_setCell_below (ownsRow_setCell_below (own_less this (Nat.le_refl _)) (Nat.lt_succ_self _) _) (Nat.lt_succ_self _) _ |> fun h => own_less h (Nat.le_succ _)
      · exact EncBelow hm
end Go.Proofs.Ytambempcicakgaa.U
