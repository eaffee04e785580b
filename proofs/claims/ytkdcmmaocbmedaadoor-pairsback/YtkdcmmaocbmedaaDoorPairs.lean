/- What pairs.Split and pairs.Join answer, and the law's own 'answers'. -/
import Derived.Test.YtkdcmmaocbmedaaDoorFind
namespace Go.Proofs.YtkdcmmaocbmedaaDoor.U
open Go.RowKit
set_option linter.unusedVariables false

theorem key_one {rows : List Row3} {key : Row3 → Int} (hup : up (rows.map key) = true) {t u : Row3} (ht : t ∈ rows) (hu : u ∈ rows) (h : key t = key u) : t = u := by
  obtain ⟨i, hi⟩ := List.getElem?_of_mem ht
  obtain ⟨j, hj⟩ := List.getElem?_of_mem hu
  have := up_one hup (i := i) (j := j) (a := key t) (by rw [List.getElem?_map, hi]; rfl) (by rw [List.getElem?_map, hj, h]; rfl)
  subst this
  exact Option.some.inj (hi.symm.trans hj)
theorem spl_row {t : Row3} {a b n : Int} (ht : t ∈ tabS) (h : Spl t.1 a b n) : a = t.2.1 ∧ b = t.2.2 ∧ n = if t.2.2 = 0 then 1 else 2 := by
  rcases h with ⟨u, hu, h1, rfl, rfl, hn⟩ | ⟨h, _⟩
  · obtain rfl := key_one upS hu ht h1
    exact ⟨rfl, rfl, hn⟩
  · exact absurd rfl (h t ht)
theorem spl_no {r a b n : Int} (hno : ∀ t ∈ tabS, kS t ≠ r) (h : Spl r a b n) : a = 0 ∧ b = 0 ∧ n = 0 := by
  rcases h with ⟨u, hu, h1, _⟩ | ⟨_, h⟩
  · exact absurd h1 (hno u hu)
  · exact h
theorem kP_inj {a b c d : Int} (hb : -2147483648 ≤ b ∧ b ≤ 2147483647) (hd : -2147483648 ≤ d ∧ d ≤ 2147483647) (h : kP a b = kP c d) : a = c ∧ b = d := by
  unfold kP at h
  omega
theorem joi_row {t : Row3} {a b r : Int} {ok : Bool} (ht : t ∈ tabJ) (ha : t.2.1 = a) (hb : t.2.2 = b) (h : Joi a b r ok) : r = t.1 ∧ ok = true := by
  rcases h with ⟨u, hu, h1, h2, h3, h4⟩ | ⟨h, _⟩
  · obtain rfl := key_one upJ hu ht (by unfold kJ; rw [h1, h2, ha, hb])
    exact ⟨h3.symm, h4⟩
  · exact absurd ⟨ha, hb⟩ (h t ht)
theorem joi_none {a b r : Int} {ok : Bool} (hno : ∀ t ∈ tabJ, kJ t ≠ kP a b) (h : Joi a b r ok) : r = 0 ∧ ok = false := by
  rcases h with ⟨u, hu, h1, h2, _⟩ | ⟨_, h⟩
  · exact absurd (by unfold kJ; rw [h1, h2]) (hno u hu)
  · exact h
theorem sgnJ {a b : Int} {t : Row3} (hb : -2147483648 ≤ b ∧ b ≤ 2147483647) (h16 : in16 t = true) : (if sgn a t.2.1 = 0 then sgn b t.2.2 else sgn a t.2.1) = sgn (kP a b) (kJ t) := by
  have g := in16_true.1 h16
  obtain ⟨_, f, s⟩ := t
  dsimp only at g ⊢
  unfold kJ kP
  dsimp only
  rcases Int.lt_trichotomy a f with h | rfl | h
  · have e1 : sgn a f = -1 := by unfold sgn; rw [if_pos h]
    rw [e1, if_neg (by omega)]
    unfold sgn
    rw [if_pos (by omega)]
  · have e1 : sgn a a = 0 := sgn_zero.2 rfl
    rw [e1, if_pos rfl]
    unfold sgn
    rcases Int.lt_trichotomy b s with h | rfl | h
    · rw [if_pos h, if_pos (by omega)]
    · rw [if_neg (by omega), if_neg (by omega), if_neg (by omega), if_neg (by omega)]
    · rw [if_neg (by omega), if_pos h, if_neg (by omega), if_pos (by omega)]
  · have e1 : sgn a f = 1 := by unfold sgn; rw [if_neg (by omega), if_pos h]
    rw [e1, if_neg (by omega)]
    unfold sgn
    rw [if_neg (by omega), if_pos (by omega)]
theorem inS {t : Row3} (h : t ∈ tabS) : in16 t = true := List.all_eq_true.1 in16S t h
theorem inJ {t : Row3} (h : t ∈ tabJ) : in16 t = true := List.all_eq_true.1 in16J t h

def SplIs (w : World) (a b n : Int) (e : Ending) (w' : World) : Prop := e = .returned (.tuple #[.int .i32 a, .int .i32 b, .int .i64 n]) ∧ Bel w w'
def JoiIs (w : World) (r : Int) (ok : Bool) (e : Ending) (w' : World) : Prop := e = .returned (.tuple #[.int .i32 r, .bool ok]) ∧ Bel w w'

set_option maxHeartbeats 4000000 in
theorem split_is (r a b n : Int) (w : World) (h : Spl r a b n) : Calls Tryd.prog 4 #[.int .i32 r] w (SplIs w a b n) := by
  have hmf : ∀ (fn : Fn) (first cap : Array Value) (w : World), (Instr.makeFunc fn first cap).run Tryd.prog w = .ok (.func fn first cap) w := fun _ _ _ _ => rfl
  have hb1 : Bel w (w.alloc (.cells #[.int .i32 r] 21)) := (Bel.refl w).alloc _
  have hF := find_is splitsS tabS 572 kS r 9 #[.pointer (some ⟨w.heap.size, 0, none⟩)] (w.alloc (.cells #[.int .i32 r] 21)) txtS tabS_len (by omega) upS enters9
    (fun w' L t ht hl hb => sideS_is r _ w.heap.size L t w' hl (inS ht) (cell_bel (cell_box w (.int .i32 r) 21) hb) rfl)
  have HF := Lib.hid hF
  have HS := Lib.hid h
  have HB := Lib.hid hb1
  clear hF h hb1
  refine calls_of_wp Tryd.func4 body4 ?_
  generalize splitsS = S at HF ⊢
  generalize posAt Tryd.f4 = p
  unfold code4
  simp only [Tryd.ntmps4, List.size_toArray, List.length_cons, List.length_nil, Nat.reduceAdd, Nat.reduceSub, Array.replicate_succ, Array.replicate_zero, List.push_toArray, List.append_toArray, List.nil_append, List.cons_append]
  go_wp2_with fail
  refine HF.out.mono ?_
  rintro e w3 ⟨L, ok, rfl, HE, hb3⟩
  have hb4 := HB.out.trans hb3
  rcases HE.out with ⟨rfl, t, ht, hk, hl⟩ | ⟨rfl, hno⟩
  · have hk' : t.1 = r := hk
    subst hk'
    obtain ⟨ea, eb, hn⟩ := spl_row ht HS.out
    have H1 : Hid (∀ w, Calls Tryd.prog 12 #[.string L] w (RuneIs w a)) := Lib.hid fun w => by rw [ea]; exact first_is L t w hl (inS ht)
    have H2 : Hid (∀ w, Calls Tryd.prog 13 #[.string L] w (RuneIs w b)) := Lib.hid fun w => by rw [eb]; exact second_is L t w hl (inS ht)
    have H3 := Lib.hid (fun w => parts_is L t n w hl (inS ht) hn)
    clear ea eb hn hl ht HE HF HS HB hk hb3
    go_wp2_with (first | (go_at_call 12; refine (H1.out _).mono ?_; rintro e w4 ⟨rfl, h4⟩) | (go_at_call 13; refine (H2.out _).mono ?_; rintro e w5 ⟨rfl, h5⟩) | (go_at_call 14; refine (H3.out _).mono ?_; rintro e w6 ⟨rfl, h6⟩))
    go_ret3
    exact ⟨rfl, ((hb4.trans h4).trans h5).trans h6⟩
  · obtain ⟨rfl, rfl, rfl⟩ := spl_no hno HS.out
    clear hno HE HF HS HB hb3
    go_wp2
    go_ret3
    exact ⟨rfl, hb4⟩

set_option maxHeartbeats 4000000 in
theorem join_is (a b r : Int) (ok : Bool) (w : World) (h : Joi a b r ok) (hb : -2147483648 ≤ b ∧ b ≤ 2147483647) : Calls Tryd.prog 5 #[.int .i32 a, .int .i32 b] w (JoiIs w r ok) := by
  have hmf : ∀ (fn : Fn) (first cap : Array Value) (w : World), (Instr.makeFunc fn first cap).run Tryd.prog w = .ok (.func fn first cap) w := fun _ _ _ _ => rfl
  have hb1 : Bel w ((w.alloc (.cells #[.int .i32 a] 21)).alloc (.cells #[.int .i32 b] 21)) := ((Bel.refl w).alloc _).alloc _
  have c1 : ((w.alloc (.cells #[.int .i32 a] 21)).alloc (.cells #[.int .i32 b] 21)).cell? ⟨w.heap.size, 0, none⟩ = some (.int .i32 a) := cell_bel (cell_box w (.int .i32 a) 21) ((Bel.refl _).alloc _)
  have c2 : ((w.alloc (.cells #[.int .i32 a] 21)).alloc (.cells #[.int .i32 b] 21)).cell? ⟨w.heap.size + 1, 0, none⟩ = some (.int .i32 b) := by
    have := cell_box (w.alloc (.cells #[.int .i32 a] 21)) (.int .i32 b) 21
    rwa [show (w.alloc (.cells #[.int .i32 a] 21)).heap.size = w.heap.size + 1 by simp] at this
  have hF := find_is joinsS tabJ 560 kJ (kP a b) 15 #[.pointer (some ⟨w.heap.size, 0, none⟩), .pointer (some ⟨w.heap.size + 1, 0, none⟩)] _ txtJ tabJ_len (by omega) upJ enters15
    (fun w' L t ht hl hb' => sideJ_is a b _ w.heap.size (w.heap.size + 1) L t w' hl (inJ ht) (cell_bel c1 hb') (cell_bel c2 hb') (sgnJ hb (inJ ht)))
  have HF := Lib.hid hF
  have HS := Lib.hid h
  have HB := Lib.hid hb1
  clear hF h hb1 c1 c2
  refine calls_of_wp Tryd.func5 body5 ?_
  generalize joinsS = S at HF ⊢
  generalize posAt Tryd.f5 = p
  unfold code5
  simp only [Tryd.ntmps5, List.size_toArray, List.length_cons, List.length_nil, Nat.reduceAdd, Nat.reduceSub, Array.replicate_succ, Array.replicate_zero, List.push_toArray, List.append_toArray, List.nil_append, List.cons_append]
  go_wp2_with fail
  refine HF.out.mono ?_
  rintro e w3 ⟨L, f, rfl, HE, hb3⟩
  have hb4 := HB.out.trans hb3
  rcases HE.out with ⟨rfl, t, ht, hk, hl⟩ | ⟨rfl, hno⟩
  · have g := in16_true.1 (inJ ht)
    obtain ⟨ha, hb'⟩ := kP_inj (a := t.2.1) (b := t.2.2) (c := a) (d := b) ⟨by omega, by omega⟩ hb hk
    obtain ⟨er, rfl⟩ := joi_row ht ha hb' HS.out
    have H1 : Hid (∀ w, Calls Tryd.prog 11 #[.string L] w (RuneIs w r)) := Lib.hid fun w => by rw [er]; exact whole_is L t w hl (inJ ht)
    clear er hl ht HE HF HS HB hk hb3 g ha hb'
    go_wp2_with (go_at_call 11; refine (H1.out _).mono ?_; rintro e w4 ⟨rfl, h4⟩)
    go_ret2
    exact ⟨rfl, hb4.trans h4⟩
  · obtain ⟨rfl, rfl⟩ := joi_none hno HS.out
    clear hno HE HF HS HB hb3
    go_wp2
    go_ret2
    exact ⟨rfl, hb4⟩

theorem answers_is (w : World) : Calls Tryd.prog 6 #[] w fun e w' => e = .returned (.bool true) ∧ Bel w w' := by
  have H1 := Lib.hid (fun w => split_is 233 101 769 2 w spl_233)
  have H2 := Lib.hid (fun w => join_is 101 769 233 true w joi_233 (by omega))
  go_enter Tryd.func6, Tryd.ntmps6
  go_wp2_with (first | (go_at_call 4; refine (H1.out _).mono ?_; rintro e w1 ⟨rfl, h1⟩) | (go_at_call 5; refine (H2.out _).mono ?_; rintro e w2 ⟨rfl, h2⟩))
  go_ret
  exact ⟨rfl, h1.trans h2⟩
end Go.Proofs.YtkdcmmaocbmedaaDoor.U
