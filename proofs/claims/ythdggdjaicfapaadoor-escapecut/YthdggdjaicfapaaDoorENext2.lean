/- What escape.Next answers where a byte 27 stands. -/
import Derived.Test.YthdggdjaicfapaaDoorENext
import Derived.Test.YthdggdjaicfapaaDoorRNext2
namespace Go.Proofs.YthdggdjaicfapaaDoor.U
open Go.RowKit
set_option linter.unusedVariables false

def ThereP (w : World) (s0 s1 : Int) (k h : Nat) (r : Nat × Nat × Nat) (e : Ending) (w' : World) : Prop :=
  (r.2.2 = 0 ∧ NextNo w 5 k e w') ∨ (r.2.2 ≠ 0 ∧ NextYes w s0 s1 r.1 r.2.1 (1 + h + r.2.2) e w')
set_option maxRecDepth 100000 in
set_option maxHeartbeats 4000000 in
theorem next_there (A : Option Addr) (c k h m side set nn : Nat) (l : List Int) (s0 s1 : Int) (w : World) (hT : Tb w) (hA : Rd w w.heap.size .u8 A l) (hn : l.length = k + 1 + h + m) (hc : k + 1 + h + m ≤ c) (hkn : k + 1 + h + m ≤ 9223372036854770000) (hnn : 1 + h + nn ≤ 9223372036854775000) (hb : ∀ x ∈ l, 0 ≤ x ∧ x < 256) (hk : l[k]? = some 27)
    (hh : (headOf (l.drop (k + 1))).length = h) (hm : (restOf (l.drop (k + 1))).length = m)
    (hr : tellL (headOf (l.drop (k + 1))) (restOf (l.drop (k + 1))) = (side, set, nn)) :
    Calls Tryd.prog 8 #[.slice A (k + 1 + h + m : Nat) c, .int .i64 k, .agg #[.int .i64 s0, .int .i64 s1]] w (ThereP w s0 s1 k h (side, set, nn)) := by
  have HX := Lib.hid (bx_made w s0 s1)
  obtain ⟨g, off, rfl, hg, hcell⟩ := hA k 27 hk
  have hcell' := (Below.cell HX.out.2.2.2.2.2.2.2 (p := ⟨g, off + k, none⟩) hg).trans hcell
  have q0 : ¬ (k : Int) < 0 := by omega
  have q1 : decide ((k : Int) + 1 + h + m ≤ (k : Int)) = false := decide_eq_false (by omega)
  have q2 : (k : Int) < (k : Int) + 1 + h + m := by omega
  have q3 : (0 : Int) ≤ (k : Int) := by omega
  have q4 : (k : Int) + 1 ≤ (k : Int) + 1 + h + m := by omega
  have q5 : (k : Int) + 1 + h + m ≤ (c : Int) := by omega
  have HT := Lib.hid hT
  have HA := Lib.hid hA
  have HN := Lib.hid hn
  have HB := Lib.hid hb
  have HK := Lib.hid hk
  have HR := Lib.hid hr
  have HH := Lib.hid hh
  have HM := Lib.hid hm
  have hbt : ∀ x ∈ l.drop (k + 1), 0 ≤ x ∧ x < 256 := fun x hx => hb x (List.mem_of_mem_drop hx)
  have HBT := Lib.hid hbt
  clear hT hA hn hb hk hr hcell hh hm hbt
  by_cases hck : c = k + 1
  · obtain rfl : h = 0 := by omega
    obtain rfl : m = 0 := by omega
    have hd0 : l.drop (k + 1) = [] := List.drop_eq_nil_of_le (by rw [HN.out]; omega)
    have hrz : (0, 0, 0) = (side, set, nn) := by rw [← HR.out, hd0]; rfl
    simp only [Prod.mk.injEq] at hrz
    obtain ⟨rfl, rfl, rfl⟩ := hrz
    subst hck
    have hck' : (((k + 1 : Nat) : Int)) = (k : Int) + 1 := by omega
    clear q1 q2 q4 q5
    have q1 : decide ((k : Int) + 1 ≤ (k : Int)) = false := decide_eq_false (by omega)
    have q2 : (k : Int) < (k : Int) + 1 := by omega
    go_enter Tryd.func8, Tryd.ntmps8
    go_wp2_with fail
    generalize hW : (((w.alloc (Obj.cells #[Value.int IntKind.i64 s0, Value.int IntKind.i64 s1] 24)).alloc (Obj.cells #[Value.int IntKind.i64 0, Value.int IntKind.i64 0] 24)).alloc (Obj.cells #[Value.int IntKind.i64 0, Value.int IntKind.i64 0] 28)) = W at HX ⊢
    clear hW hcell'
    have hbw : Bel w W := HX.out.2.2.2.2.2.2.2
    have HBW := Lib.hid hbw
    clear hbw
    with_reducible refine (trim_is (some ⟨g, off, none⟩) 0 0 [] ⟨#[36, 40, 44, 41, 45]⟩ W rfl Rd.nil rfl (by omega) (fun e => by cases e) (by simp)).mono ?_
    rintro e w1 ⟨v, rfl, ⟨A', m', c', rfl, hm', hc', hrd, hnil⟩, hb1⟩
    obtain rfl : m' = 0 := hm'.symm
    have HX1 := Lib.hid (HX.out.bel hb1)
    clear HX
    have q6 : (k : Int) + 1 ≤ (k : Int) + 1 := by omega
    have hcv := run_str_bytes (P := Tryd.prog) (l := []) (c := 0) (n := 0) w1 22 9 5 Tryd.underlying22 Tryd.underlying5 Tryd.underlying9 (B := w1.heap.size) (g := g) (off := off) Rd.nil rfl (by simp)
    have HTE := Lib.hid (tell_is A' (some ⟨g, off, none⟩) 0 c' 0 0 [] [] _ w1 ((HT.out.bel HBW.out).bel hb1) hrd hm' hc' (by simp) hcv (by simp) (show tellL [] [] = (0, 0, 0) from rfl))
    clear hcv hb1 hrd hm' hnil
    go_wp2_with fail
    with_reducible refine HTE.out.mono ?_
    rintro e w2 ⟨he, hb2⟩
    obtain rfl : e = .returned (.tuple #[.int .i64 0, .int .i64 0, .int .i64 0]) := he
    have HX2 := Lib.hid (HX1.out.bel hb2)
    clear HTE HX1 hb2 HBW
    obtain ⟨x1, x2, x3, x4, ⟨a0, a1, a2, a3⟩, ⟨b0, b1, b2, b3⟩, ⟨c0, c1, c2, c3⟩, hw⟩ := HX2.out
    have HW := Lib.hid hw
    clear hw HX2
    generalize w.heap.size + 1 + 1 = bc at *
    generalize w.heap.size + 1 = bb at *
    generalize hba : w.heap.size = ba at *
    replace hba := Lib.hid hba
    have n1 : ba ≠ bb := by omega
    have n2 : bb ≠ ba := by omega
    have n3 : ba ≠ bc := by omega
    have n4 : bc ≠ ba := by omega
    have n5 : bb ≠ bc := by omega
    have n6 : bc ≠ bb := by omega
    go_wp2
    refine bodyPost_ret (v := .tuple #[.agg #[.int .i64 0, .int .i64 0], .int .i64 0, .agg #[.int .i64 5, .int .i64 k]]) (by simp [results, Tryd.results8, go_sem, b0, b1, c0, c1, n1, n2, n3, n4, n5, n6]) rfl (.inl ⟨rfl, rfl, ?_⟩)
    refine four_sets HW.out ?_ ?_ _ _ _ _ <;> rw [hba.out] <;> omega
  · have hck' : ¬ ((c : Int) = (k : Int) + 1) := by omega
    go_enter Tryd.func8, Tryd.ntmps8
    go_wp2_with fail
    generalize hW : (((w.alloc (Obj.cells #[Value.int IntKind.i64 s0, Value.int IntKind.i64 s1] 24)).alloc (Obj.cells #[Value.int IntKind.i64 0, Value.int IntKind.i64 0] 24)).alloc (Obj.cells #[Value.int IntKind.i64 0, Value.int IntKind.i64 0] 28)) = W at HX ⊢
    clear hW hcell'
    have hbw : Bel w W := HX.out.2.2.2.2.2.2.2
    have HD := Lib.hid ((HA.out.drop (k := k + 1)).bel hbw).here
    have HBW := Lib.hid hbw
    clear hbw
    with_reducible refine (trim_is (some ⟨g, off + (k + 1), none⟩) (k + 1 + h + m - (k + 1)) (c - (k + 1)) (l.drop (k + 1)) ⟨#[36, 40, 44, 41, 45]⟩ W rfl HD.out (by rw [List.length_drop, HN.out]) (by omega) (fun e => by cases e) HBT.out).mono ?_
    rintro e w1 ⟨v, rfl, ⟨A', m', c', rfl, hm', hc', hrd, hnil⟩, hb1⟩
    obtain rfl : m' = m := hm'.symm.trans HM.out
    have HX1 := Lib.hid (HX.out.bel hb1)
    clear HX
    have q6 : (k : Int) + 1 ≤ (k : Int) + 1 + h := by omega
    have q7 : (k : Int) + 1 + h ≤ (c : Int) := by omega
    have hhd : (l.drop (k + 1)).take h = headOf (l.drop (k + 1)) := by
      conv => lhs; rw [← head_rest (l.drop (k + 1))]
      rw [List.take_left' HH.out]
    have hbw1 : Bel W w1 := hb1
    have hcv := run_str_bytes (P := Tryd.prog) (c := c - (k + 1)) (n := h) w1 22 9 5 Tryd.underlying22 Tryd.underlying5 Tryd.underlying9 ((HD.out.bel hb1).take (k := h)) (by rw [hhd, HH.out]) (fun x hx => HBT.out x (List.mem_of_mem_take hx))
    rw [hhd] at hcv
    have HTE := Lib.hid (tell_is A' (some ⟨g, off + (k + 1), none⟩) m' c' h (c - (k + 1)) (restOf (l.drop (k + 1))) (headOf (l.drop (k + 1))) _ w1 ((HT.out.bel HBW.out).bel hb1) hrd hm' hc' (fun x hx => HBT.out x (by rw [← head_rest (l.drop (k + 1))]; exact List.mem_append_right _ hx)) hcv (fun x hx => HBT.out x (by rw [← head_rest (l.drop (k + 1))]; exact List.mem_append_left _ hx)) HR.out)
    clear hcv hhd hb1 hbw1 hrd hm' hnil
    go_wp2_with fail
    with_reducible refine HTE.out.mono ?_
    rintro e w2 ⟨he, hb2⟩
    obtain rfl : e = .returned (.tuple #[.int .i64 side, .int .i64 set, .int .i64 nn]) := he
    have HX2 := Lib.hid (HX1.out.bel hb2)
    clear HTE HX1 hb2 HD HBW
    obtain ⟨x1, x2, x3, x4, ⟨a0, a1, a2, a3⟩, ⟨b0, b1, b2, b3⟩, ⟨c0, c1, c2, c3⟩, hw⟩ := HX2.out
    have HW := Lib.hid hw
    clear hw HX2
    generalize w.heap.size + 1 + 1 = bc at *
    generalize w.heap.size + 1 = bb at *
    generalize hba : w.heap.size = ba at *
    replace hba := Lib.hid hba
    have n1 : ba ≠ bb := by omega
    have n2 : bb ≠ ba := by omega
    have n3 : ba ≠ bc := by omega
    have n4 : bc ≠ ba := by omega
    have n5 : bb ≠ bc := by omega
    have n6 : bc ≠ bb := by omega
    by_cases hz : nn = 0
    · subst hz
      go_wp2
      refine bodyPost_ret (v := .tuple #[.agg #[.int .i64 0, .int .i64 0], .int .i64 0, .agg #[.int .i64 5, .int .i64 k]]) (by simp [results, Tryd.results8, go_sem, b0, b1, c0, c1, n1, n2, n3, n4, n5, n6]) rfl (.inl ⟨rfl, rfl, ?_⟩)
      refine four_sets HW.out ?_ ?_ _ _ _ _ <;> rw [hba.out] <;> omega
    · have hnz : ((nn : Int) == 0) = false := by simp; omega
      have w0 : 0 ≤ 1 + (h : Int) := by omega
      have w1' : 1 + (h : Int) ≤ 9223372036854775807 := by omega
      have w2' : 1 + (h : Int) + (nn : Int) ≤ 9223372036854775807 := by omega
      by_cases hs : side = 0
      · subst hs
        go_wp2
        refine bodyPost_ret (v := .tuple #[.agg #[.int .i64 set, .int .i64 s1], .int .i64 (1 + h + nn : Nat), .agg #[.int .i64 0, .int .i64 0]]) (by simp [results, Tryd.results8, go_sem, b0, b1, c0, c1, n1, n2, n3, n4, n5, n6]) rfl (.inr ⟨hz, rfl, ?_⟩)
        refine five_sets HW.out ?_ ?_ ?_ _ _ _ _ _ <;> rw [hba.out] <;> omega
      · have hs' : ((side : Int) == 0) = false := by simp; omega
        go_wp2
        refine bodyPost_ret (v := .tuple #[.agg #[.int .i64 s0, .int .i64 set], .int .i64 (1 + h + nn : Nat), .agg #[.int .i64 0, .int .i64 0]]) (by simp [results, Tryd.results8, go_sem, b0, b1, c0, c1, n1, n2, n3, n4, n5, n6]) rfl (.inr ⟨hz, ?_, ?_⟩)
        · show Ending.returned _ = _
          rw [newst, if_neg (by omega)]
        · refine five_sets HW.out ?_ ?_ ?_ _ _ _ _ _ <;> rw [hba.out] <;> omega

theorem next_any (A : Option Addr) (n c k : Nat) (l : List Int) (s0 s1 : Int) (w : World) (hT : Tb w) (hA : Rd w w.heap.size .u8 A l) (hn : l.length = n) (hc : n ≤ c) (hn' : n ≤ 9223372036854770000) (hb : ∀ x ∈ l, 0 ≤ x ∧ x < 256) (hk : l[k]? = some 27) :
    Calls Tryd.prog 8 #[.slice A n c, .int .i64 k, .agg #[.int .i64 s0, .int .i64 s1]] w (NextP w l k s0 s1) := by
  have hkn : k < l.length := (List.getElem?_eq_some_iff.1 hk).1
  have hd : l.drop k = 27 :: l.drop (k + 1) := by
    rw [List.drop_eq_getElem_cons hkn]
    congr 1
    simpa [List.getElem?_eq_getElem hkn] using hk
  obtain ⟨h, hh⟩ : ∃ h, (headOf (l.drop (k + 1))).length = h := ⟨_, rfl⟩
  obtain ⟨m, hm⟩ : ∃ m, (restOf (l.drop (k + 1))).length = m := ⟨_, rfl⟩
  obtain ⟨⟨side, set, nn⟩, hr⟩ : ∃ r, tellL (headOf (l.drop (k + 1))) (restOf (l.drop (k + 1))) = r := ⟨_, rfl⟩
  have hlen : h + m = l.length - (k + 1) := by
    rw [← hh, ← hm, ← List.length_append, head_rest, List.length_drop]
  have hnn : nn = 0 ∨ Reads (27 :: l.drop (k + 1)) side set (1 + h + nn) := by
    by_cases hz : nn = 0
    · exact .inl hz
    · exact .inr (by rw [← hh]; exact tell_reads hr hz)
  have hbig : 1 + h + nn ≤ 9223372036854775000 := by
    rcases hnn with rfl | ⟨p, _, h2, h3⟩
    · omega
    · have := h3.length_le
      rw [List.length_cons, List.length_drop] at this
      omega
  have hN : n = k + 1 + h + m := by omega
  subst hN
  refine (next_there A c k h m side set nn l s0 s1 w hT hA hn hc hn' hbig hb hk hh hm hr).mono ?_
  intro e w' hp
  rcases hp with ⟨hz, hp⟩ | ⟨hz, hp⟩
  · exact .inl ⟨by rw [hd]; exact tell_none (by rw [hr]; exact hz), hp⟩
  · exact .inr ⟨side, set, _, by rw [hd]; exact hnn.resolve_left hz, hp⟩
end Go.Proofs.YthdggdjaicfapaaDoor.U
