/- The joiner, where it lies, and what its reaches answers. -/
import Derived.Test.YtfgpgmfajjakpaaDoorJoin
import Derived.Test.YtfgpgmfajjakpaaDoorAdd
import Derived.Test.YtfgpgmfajjakpaaDoorRow0
namespace Go.Proofs.YtfgpgmfajjakpaaDoor.U
open Go.RowKit
set_option linter.unusedVariables false

/-- The joiner lies in block B and holds v, a row of its own, and where its last starter stands. -/
def Jst (B : Nat) (w : World) (v : Value) (o : List Int) (s : Int) : Prop := w.heap[B]? = some (.cells #[v, .int .i64 s] 33 (0, 0)) ∧ Own w (B + 1) 21 .i32 v o
theorem Jst.c0 {B : Nat} {w : World} {v : Value} {o : List Int} {s : Int} (h : Jst B w v o s) : w.cell? ⟨B, 0, none⟩ = some v := by simp [World.cell?, h.1]
theorem Jst.c1 {B : Nat} {w : World} {v : Value} {o : List Int} {s : Int} (h : Jst B w v o s) : w.cell? ⟨B, 1, none⟩ = some (.int .i64 s) := by simp [World.cell?, h.1]
theorem Jst.f0 {B : Nat} {w : World} {v : Value} {o : List Int} {s : Int} (h : Jst B w v o s) : w.frozen? ⟨B, 0, none⟩ = false := by simp [World.frozen?, h.1]
theorem Jst.f1 {B : Nat} {w : World} {v : Value} {o : List Int} {s : Int} (h : Jst B w v o s) : w.frozen? ⟨B, 1, none⟩ = false := by simp [World.frozen?, h.1]
theorem Jst.lt {B : Nat} {w : World} {v : Value} {o : List Int} {s : Int} (h : Jst B w v o s) : B < w.heap.size := (Array.getElem?_eq_some_iff.1 h.1).1
theorem Jst.bel {B : Nat} {w w' : World} {v : Value} {o : List Int} {s : Int} (h : Jst B w v o s) (hb : Bel w w') : Jst B w' v o s :=
  ⟨by rw [hb.block B h.lt]; exact h.1, h.2.keep hb⟩
theorem jbyte_is {w : World} {B : Nat} {v u : Value} (h : w.heap[B]? = some (.cells #[v, u] 33 (0, 0))) : (byteOf ⟨B, 0, none⟩).run Tryd.prog w = .ok 0 w := by
  have hc : Tryd.prog.cellsOf 33 = 2 := by kernel_rfl
  have hb : byteOfCell Tryd.prog Tryd.prog.depth 33 0 = some 0 := by kernel_rfl
  simp [byteOf, noView, viewAt, World.shape?, h, hc, hb]
/-- The table, which has no cells, lies where the joiner lies. -/
theorem jpart_is {w : World} {B : Nat} {v u : Value} (h : w.heap[B]? = some (.cells #[v, u] 33 (0, 0))) : (partAt ⟨B, 0, none⟩ 0 0).run Tryd.prog w = .ok ⟨B, 0, none⟩ w := by
  unfold partAt
  simp [jbyte_is h]

set_option maxHeartbeats 1000000 in
theorem reach_no (B : Nat) (c : Int) (o : List Int) (v : Value) (w : World) (hs : Jst B w v o (-1)) (hn : o.length ≤ 1099511627776) :
    Calls Tryd.prog 21 #[.pointer (some ⟨B, 0, none⟩), .int .i32 c] w (BoolG w false) := by
  obtain ⟨n, hl⟩ : ∃ n, o.length = n := ⟨_, rfl⟩
  rw [hl] at hn
  obtain ⟨A, cap, rfl, _, hrd, _⟩ := hs.2.rdn hl
  have c0 := hs.c0
  have c1 := hs.c1
  clear hs hl hrd
  go_enter Tryd.func21, Tryd.ntmps21
  go_wp2
  go_ret
  exact ⟨rfl, Gr.refl w⟩
set_option maxHeartbeats 1000000 in
theorem reach_last (B : Nat) (c : Int) (o : List Int) (s : Int) (v : Value) (w : World) (hs : Jst B w v o s) (hn : o.length ≤ 1099511627776) (h1 : s ≠ -1) (h2 : s = (o.length : Int) - 1) :
    Calls Tryd.prog 21 #[.pointer (some ⟨B, 0, none⟩), .int .i32 c] w (BoolG w true) := by
  obtain ⟨n, hl⟩ : ∃ n, o.length = n := ⟨_, rfl⟩
  rw [hl] at hn h2
  obtain ⟨A, cap, rfl, _, hrd, _⟩ := hs.2.rdn hl
  have c0 := hs.c0
  have c1 := hs.c1
  have e1 : (s == -1) = false := by simpa using h1
  have e2 : (s == (n : Int) - 1) = true := by simpa using h2
  clear hs hl hrd h1 h2
  go_enter Tryd.func21, Tryd.ntmps21
  go_wp2
  go_ret
  exact ⟨rfl, Gr.refl w⟩
set_option maxHeartbeats 1000000 in
theorem reach_far (B : Nat) (c z a b : Int) (o : List Int) (s : Int) (v : Value) (w : World) (hs : Jst B w v o s) (hS : Sp w) (hn : o.length ≤ 1099511627776) (h1 : s ≠ -1) (h2 : s ≠ (o.length : Int) - 1) (h0 : 0 < o.length) (hz : o[o.length - 1]? = some z) (ha : cls z = a) (hb : cls c = b) :
    Calls Tryd.prog 21 #[.pointer (some ⟨B, 0, none⟩), .int .i32 c] w (BoolG w (decide (a < b))) := by
  obtain ⟨n, hl⟩ : ∃ n, o.length = n := ⟨_, rfl⟩
  rw [hl] at hn h2 h0 hz
  obtain ⟨A, cap, rfl, _, hrd, _⟩ := hs.2.rdn hl
  obtain ⟨g, off, rfl, _, hc⟩ := hrd _ _ hz
  have c0 := hs.c0
  have c1 := hs.c1
  have e1 : (s == -1) = false := by simpa using h1
  have e2 : (s == (n : Int) - 1) = false := by simpa using h2
  have q0 : (0 : Int) ≤ (n : Int) - 1 := by omega
  have q1 : (n : Int) - 1 < (n : Int) := by omega
  have q2 : ((n : Int) - 1).toNat = n - 1 := by omega
  have H1 := Lib.hid (of_is z a w hS ha)
  have H2 := Lib.hid (fun w' (hg : Gr w w') => of_is c b w' (hS.bel hg) hb)
  clear hs hl hrd h1 h2 hz ha hb hS h0
  go_enter Tryd.func21, Tryd.ntmps21
  go_wp2_with fail
  with_reducible refine H1.out.mono ?_
  rintro e w1 ⟨rfl, g1⟩
  go_wp2_with fail
  with_reducible refine (H2.out _ g1).mono ?_
  rintro e w2 ⟨rfl, g2⟩
  go_wp2
  go_ret
  exact ⟨rfl, g1.trans g2⟩
theorem reach_is (B : Nat) (c : Int) (o : List Int) (s : Int) (b : Bool) (v : Value) (w : World) (hs : Jst B w v o s) (hS : Sp w) (hk : Ok o s) (hn : o.length ≤ 1099511627776) (hb : rch o s c = b) :
    Calls Tryd.prog 21 #[.pointer (some ⟨B, 0, none⟩), .int .i32 c] w (BoolG w b) := by
  unfold rch at hb
  by_cases h1 : s = -1
  · subst h1
    rw [if_pos rfl] at hb
    subst hb
    exact reach_no B c o v w hs hn
  · rw [if_neg h1] at hb
    by_cases h2 : s = (o.length : Int) - 1
    · rw [if_pos h2] at hb
      subst hb
      exact reach_last B c o s v w hs hn h1 h2
    · rw [if_neg h2] at hb
      subst hb
      have h0 : 0 < o.length := by unfold Ok at hk; omega
      obtain ⟨z, hz⟩ : ∃ z, o[o.length - 1]? = some z := ⟨o[o.length - 1]'(by omega), by simp⟩
      have hg : o.getD (o.length - 1) 0 = z := by rw [List.getD_eq_getElem?_getD, hz]; rfl
      rw [hg]
      exact reach_far B c z _ _ o s v w hs hS hn h1 h2 h0 hz rfl rfl
end Go.Proofs.YtfgpgmfajjakpaaDoor.U
