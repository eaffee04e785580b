/- What the reference's Next answers at the least escape of a side and a set, from no sets at all: that set on that side, the escape's length, no fault. -/
import Derived.Test.YtmghmhhiahmjaaaDoorRDes
namespace Go.Proofs.YtmghmhhiahmjaaaDoor.U
open Go.RowKit
set_option linter.unusedVariables false

/-- The sets behind it. -/
def st (side set : Int) : Value := if side = 0 then .agg #[.int .i64 set, .int .i64 0] else .agg #[.int .i64 0, .int .i64 set]
def NextPost (w : World) (side set : Int) (n : Nat) (e : Ending) (w' : World) : Prop := e = .returned (.tuple #[st side set, .int .i64 n, .agg #[.int .i64 0, .int .i64 0]]) ∧ Bel w w'
def NextRel (W : World) (K : Nat) (i : Value) (w : World) : Prop := ∃ k q : Nat, i = .int .i64 k ∧ k ≤ K ∧ w = W.drewN q

theorem str_back {l : List Int} (h : ∀ x ∈ l, 0 ≤ x ∧ x < 256) : (bs l).map (fun b => (b.toNat : Int)) = l := by
  unfold bs
  rw [List.map_map]
  conv => rhs; rw [← List.map_id l]
  apply List.map_congr_left
  intro x hx
  have := h x hx
  simp only [Function.comp, id]
  rw [toNat_of this.1 this.2]
  omega
theorem str_inj {a b : List Int} (ha : ∀ x ∈ a, 0 ≤ x ∧ x < 256) (hb : ∀ x ∈ b, 0 ≤ x ∧ x < 256) (h : str a = str b) : a = b := by
  have e : bs a = bs b := by
    have := congrArg (fun s : ByteArray => s.data.toList) h
    simpa [str] using this
  rw [← str_back ha, e, str_back hb]
theorem str_ne {a b : List Int} (ha : ∀ x ∈ a, 0 ≤ x ∧ x < 256) (hb : ∀ x ∈ b, 0 ≤ x ∧ x < 256) (h : a ≠ b) : ((str a).toList == (str b).toList) = false := by
  rw [ByteArray.toList_eq, ByteArray.toList_eq, beq_eq_false_iff_ne]
  intro e
  exact h (str_inj ha hb (by obtain e' := congrArg List.toArray e; simpa [ByteArray.ext_iff] using e'))

/-- Three places of the call's own, of two noughts each. -/
def Bx (w W : World) (a b c : Nat) : Prop := w.heap.size ≤ a ∧ a < b ∧ b < c ∧ c < W.heap.size
  ∧ (W.cell? ⟨a, 0, none⟩ = some (.int .i64 0) ∧ W.cell? ⟨a, 1, none⟩ = some (.int .i64 0) ∧ W.frozen? ⟨a, 0, none⟩ = false ∧ W.frozen? ⟨a, 1, none⟩ = false)
  ∧ (W.cell? ⟨b, 0, none⟩ = some (.int .i64 0) ∧ W.cell? ⟨b, 1, none⟩ = some (.int .i64 0) ∧ W.frozen? ⟨b, 0, none⟩ = false ∧ W.frozen? ⟨b, 1, none⟩ = false)
  ∧ (W.cell? ⟨c, 0, none⟩ = some (.int .i64 0) ∧ W.cell? ⟨c, 1, none⟩ = some (.int .i64 0) ∧ W.frozen? ⟨c, 0, none⟩ = false ∧ W.frozen? ⟨c, 1, none⟩ = false)
  ∧ Bel w W
theorem Bx.bel {w W W' : World} {a b c : Nat} (h : Bx w W a b c) (hb : Bel W W') : Bx w W' a b c := by
  obtain ⟨h1, h2, h3, h4, ha, hb', hc, hw⟩ := h
  have k : ∀ p : Nat, p < W.heap.size → (W.cell? ⟨p, 0, none⟩ = some (.int .i64 0) ∧ W.cell? ⟨p, 1, none⟩ = some (.int .i64 0) ∧ W.frozen? ⟨p, 0, none⟩ = false ∧ W.frozen? ⟨p, 1, none⟩ = false) →
      (W'.cell? ⟨p, 0, none⟩ = some (.int .i64 0) ∧ W'.cell? ⟨p, 1, none⟩ = some (.int .i64 0) ∧ W'.frozen? ⟨p, 0, none⟩ = false ∧ W'.frozen? ⟨p, 1, none⟩ = false) := fun p hp ⟨x0, x1, x2, x3⟩ =>
    ⟨(Below.cell hb (p := ⟨p, 0, none⟩) hp).trans x0, (Below.cell hb (p := ⟨p, 1, none⟩) hp).trans x1, (Below.frozen hb (p := ⟨p, 0, none⟩) hp).trans x2, (Below.frozen hb (p := ⟨p, 1, none⟩) hp).trans x3⟩
  exact ⟨h1, h2, h3, by have := Below.size hb; omega, k a (by omega) ha, k b (by omega) hb', k c h4 hc, hw.trans hb⟩
theorem bx_made (w : World) : Bx w (((w.alloc (.cells #[.int .i64 0, .int .i64 0] 33)).alloc (.cells #[.int .i64 0, .int .i64 0] 33)).alloc (.cells #[.int .i64 0, .int .i64 0] 36)) w.heap.size (w.heap.size + 1) (w.heap.size + 1 + 1) := by
  refine ⟨by omega, by omega, by omega, by simp, ?_, ?_, ?_, (((Bel.refl w).alloc _).alloc _).alloc _⟩
  all_goals refine ⟨?_, ?_, ?_, ?_⟩
  all_goals simp [go_sem]

set_option maxRecDepth 100000 in
set_option maxHeartbeats 4000000 in
theorem next_is (g c n K : Nat) (l : List Int) (side set : Int) (w : World) (hr : Rd w w.heap.size .u8 (some ⟨g, 0, none⟩) l) (hn : l.length = n) (hc : n ≤ c) (h2 : 2 ≤ n) (h4 : n ≤ 4) (hb : ∀ x ∈ l, 0 ≤ x ∧ x < 256) (h0 : l[0]? = some 27)
    (hK : escs[K]? = some (l, side, set)) (hno : ∀ e ∈ escs.take K, ¬ e.1 <+: l) (hs : side = 0 ∨ side = 1) :
    Calls Tryd.prog 13 #[.slice (some ⟨g, 0, none⟩) n c, .int .i64 0, .agg #[.int .i64 0, .int .i64 0]] w (NextPost w side set n) := by
  have c27 := hr.at h0
  rw [Nat.add_zero] at c27
  have c27' : (((w.alloc (.cells #[.int .i64 0, .int .i64 0] 33)).alloc (.cells #[.int .i64 0, .int .i64 0] 33)).alloc (.cells #[.int .i64 0, .int .i64 0] 36)).cell? ⟨g, 0, none⟩ = some (.int .u8 27) := (Below.cell ((((Bel.refl w).alloc _).alloc _).alloc _) (p := ⟨g, 0, none⟩) (cell_block c27)).trans c27
  have m0 : (0 : Int) < (n : Int) := by omega
  have hK40 : K < 40 := by rw [← escs_len]; exact (List.getElem?_eq_some_iff.1 hK).1
  have HR := Lib.hid hr
  have HN := Lib.hid hn
  have HB := Lib.hid hb
  have HK := Lib.hid hK
  have HNO := Lib.hid hno
  clear hr hn hb hK hno h0 c27
  go_enter Tryd.func13, Tryd.ntmps13
  go_wp2_with fail
  refine (escapes_is _).mono ?_
  rintro e w1 ⟨ge, ce, rfl, hce, hE, hb1⟩
  have HX := Lib.hid ((bx_made w).bel hb1)
  have HE : Hid (Ec w1 ge) := Lib.hid hE
  have HR1 := Lib.hid (HR.out.bel HX.out.2.2.2.2.2.2.2)
  clear hE hb1 c27'
  generalize w.heap.size + 1 + 1 = bc at HX ⊢
  generalize w.heap.size + 1 = bb at HX ⊢
  generalize w.heap.size = ba at HX ⊢
  go_wp2
  go_loopw [10] (fun i wr => NextRel w1 K i wr) (fun i _ => 40 - (intOf i).toNat)
  case atStart => exact ⟨0, 0, rfl, Nat.zero_le _, rfl⟩
  case round =>
    obtain ⟨k, q, rfl, hk, rfl⟩ := hrel
    by_cases hlt : k < K
    · obtain ⟨⟨B, s, t⟩, hx⟩ := escs_at (k := k) (by omega)
      obtain ⟨d0, d1, d2⟩ := HE.out k _ hx
      dsimp only at d0 d1 d2
      have hok := escs_ok _ (List.mem_of_getElem? hx)
      have hnot := HNO.out (B, s, t) (by rw [List.mem_take_iff_getElem]; exact ⟨k, by rw [escs_len]; omega, by simpa using (List.getElem?_eq_some_iff.1 hx).2⟩)
      dsimp only at hok hnot
      obtain ⟨nb, hnb⟩ : ∃ nb, B.length = nb := ⟨_, rfl⟩
      have hsz : (str B).size = nb := by rw [str_size, hnb]
      have q0 : (0 : Int) ≤ (k : Int) := by omega
      have q1 : (k : Int) < 40 := by omega
      by_cases hle : nb ≤ n
      · have q2 : (nb : Int) ≤ (n : Int) := by omega
        have q3 : (nb : Int) ≤ (c : Int) := by omega
        have hne : ((str (l.take nb)).toList == (str B).toList) = false := str_ne (fun x hx => HB.out x (List.mem_of_mem_take hx)) hok.1 (fun e => hnot (by rw [List.prefix_iff_eq_take, hnb]; exact e.symm))
        have hrunS : ∀ q cc, (convert 22 9 (.slice (some ⟨g, 0, none⟩) nb cc)).run Tryd.prog (w1.drewN q) = .ok (.string (str (l.take nb))) (w1.drewN q) := fun q cc =>
          run_str_bytes (P := Tryd.prog) (w1.drewN q) 22 9 5 Tryd.underlying22 Tryd.underlying5 Tryd.underlying9 HR1.out.take.drewN (by rw [List.length_take, HN.out]; omega) (fun x hx => HB.out x (List.mem_of_mem_take hx))
        clear hx hok hnot d1 d2
        go_wp2
        go_quiet (fail)
        go_wp2
        go_roundw
        case rel => exact ⟨k + 1, _, by go_num, by omega, by first | rfl | exact World.drewN_drewN _ _ _⟩
        case measure => simp [intOf]; omega
      · have hwn : IntKind.i64.wrap (nb : Int) = (nb : Int) := by rw [IntKind.wrap_i64]; omega
        have q2 : decide ((nb : Int) ≤ (n : Int)) = false := decide_eq_false (by omega)
        clear hx hok hnot d1 d2
        go_wp2
        go_quiet (fail)
        go_wp2
        go_roundw
        case rel => exact ⟨k + 1, _, by go_num, by omega, by first | rfl | exact World.drewN_drewN _ _ _⟩
        case measure => simp [intOf]; omega
    · obtain rfl : k = K := by omega
      obtain ⟨d0, d1, d2⟩ := HE.out k _ HK.out
      dsimp only at d0 d1 d2
      obtain ⟨x1, x2, x3, x4, ⟨a0, a1, a2, a3⟩, ⟨b0, b1, b2, b3⟩, ⟨c0, c1, c2, c3⟩, hw⟩ := HX.out
      have HW := Lib.hid hw
      have hsz : (str l).size = n := by rw [str_size, HN.out]
      have q0 : (0 : Int) ≤ (k : Int) := by omega
      have q1 : (k : Int) < 40 := by omega
      have q2 : (n : Int) ≤ (n : Int) := by omega
      have q3 : (n : Int) ≤ (c : Int) := by omega
      have heq : ((str l).toList == (str l).toList) = true := by simp
      have hrunS : ∀ q cc, (convert 22 9 (.slice (some ⟨g, 0, none⟩) n cc)).run Tryd.prog (w1.drewN q) = .ok (.string (str l)) (w1.drewN q) := fun q cc =>
        run_str_bytes (P := Tryd.prog) (w1.drewN q) 22 9 5 Tryd.underlying22 Tryd.underlying5 Tryd.underlying9 HR1.out.drewN HN.out HB.out
      clear hw HE HX HR1
      rcases hs with rfl | rfl
      · have hst : st 0 set = .agg #[.int .i64 set, .int .i64 0] := rfl
        go_wp2
        go_quiet (fail)
        go_wp2
        refine bodyPost_ret (v := .tuple #[.agg #[.int .i64 set, .int .i64 0], .int .i64 n, .agg #[.int .i64 0, .int .i64 0]]) ?_ rfl ⟨by rw [hst], ?_⟩
        · have n1 : ba ≠ bb := by omega
          have n2 : bb ≠ ba := by omega
          have n3 : ba ≠ bc := by omega
          have n4 : bc ≠ ba := by omega
          have n5 : bb ≠ bc := by omega
          have n6 : bc ≠ bb := by omega
          simp [results, Tryd.results13, go_sem, b0, b1, c0, c1, n1, n2, n3, n4, n5, n6]
        · exact (((((HW.out.drewN _).setCell (by show _ ≤ ba; omega) _).setCell (by show _ ≤ bb; omega) _).setCell (by show _ ≤ bb; omega) _).setCell (by show _ ≤ bc; omega) _).setCell (by show _ ≤ bc; omega) _
      · have hst : st 1 set = .agg #[.int .i64 0, .int .i64 set] := rfl
        go_wp2
        go_quiet (fail)
        go_wp2
        refine bodyPost_ret (v := .tuple #[.agg #[.int .i64 0, .int .i64 set], .int .i64 n, .agg #[.int .i64 0, .int .i64 0]]) ?_ rfl ⟨by rw [hst], ?_⟩
        · have n1 : ba ≠ bb := by omega
          have n2 : bb ≠ ba := by omega
          have n3 : ba ≠ bc := by omega
          have n4 : bc ≠ ba := by omega
          have n5 : bb ≠ bc := by omega
          have n6 : bc ≠ bb := by omega
          simp [results, Tryd.results13, go_sem, b0, b1, c0, c1, n1, n2, n3, n4, n5, n6]
        · exact (((((HW.out.drewN _).setCell (by show _ ≤ ba; omega) _).setCell (by show _ ≤ bb; omega) _).setCell (by show _ ≤ bb; omega) _).setCell (by show _ ≤ bc; omega) _).setCell (by show _ ≤ bc; omega) _
end Go.Proofs.YtmghmhhiahmjaaaDoor.U
