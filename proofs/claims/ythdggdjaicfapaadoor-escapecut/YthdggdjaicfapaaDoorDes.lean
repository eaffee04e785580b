/- What sets.Designate answers, where the table of last bytes lies in its variable: the escape's bytes, or none; and 'answers'. -/
import Derived.Test.YthdggdjaicfapaaDoorSides
namespace Go.Proofs.YthdggdjaicfapaaDoor.U
open Go.RowKit
set_option linter.unusedVariables false

theorem info5 : (Tryd.prog.info? 5).map (fun i => (i.zero, i.size, i.bytes)) = some (some (.int .u8 0), 1, 1) := by kernel_rfl
/-- An escape, and that there is one. -/
def DesYes (w : World) (l : List Int) (n : Nat) (e : Ending) (w' : World) : Prop :=
  ∃ g cap, e = .returned (.tuple #[.slice (some ⟨g, 0, none⟩) n cap, .bool true]) ∧ n ≤ cap ∧ Rd w' w'.heap.size .u8 (some ⟨g, 0, none⟩) l ∧ Bel w w' ∧ Own w' w.heap.size 5 .u8 (.slice (some ⟨g, 0, none⟩) n cap) l

theorem contains_gives {w w1 : World} {g c n : Nat} {l : List Int} (x : Int) (b : Bool) (hr : Rd w1 w1.heap.size .i64 (some ⟨g, 0, none⟩) l) (hn : l.length = n) (hm : n ≤ 1000) (hb : decide (x ∈ l) = b) (hw : Bel w w1) :
    Calls Tryd.prog 25 #[.slice (some ⟨g, 0, none⟩) n c, .int .i64 x] w1 fun e w' => e = .returned (.bool b) ∧ Bel w w' :=
  (contains_is _ n c l x b _ w1 hr hn hm hb).mono fun e w' ⟨h1, h2⟩ => ⟨h1, h2 ▸ hw⟩

/-- 'slices.Contains(Sides(set), side)'. -/
theorem sides_any (side set : Int) (w : World) : Calls Tryd.prog 26 #[.int .i64 set] w fun e w1 => ∃ A n c, e = .returned (.slice A n c) ∧ Bel w w1 ∧ ∀ b, decide (Valid side set) = b → Calls Tryd.prog 25 #[.slice A n c, .int .i64 side] w1 fun e w' => e = .returned (.bool b) ∧ Bel w w' := by
  by_cases h : 1 ≤ set ∧ set ≤ 12
  · by_cases h10 : 10 ≤ set
    · refine (sides_one set w h10 h.2).mono ?_
      rintro e w1 ⟨g, cap, rfl, hc, hr, hb⟩
      refine ⟨_, _, _, rfl, hb, fun b hv => contains_gives side b hr rfl (by omega) ?_ hb⟩
      rw [← hv, decide_eq_decide]
      simp [Valid]
      omega
    · refine (sides_two set w h.1 (by omega)).mono ?_
      rintro e w1 ⟨g, cap, rfl, hc, hr, hb⟩
      refine ⟨_, _, _, rfl, hb, fun b hv => contains_gives side b hr rfl (by omega) ?_ hb⟩
      rw [← hv, decide_eq_decide]
      simp [Valid]
      omega
  · refine (sides_no set w h).mono ?_
    rintro e w1 ⟨rfl, rfl⟩
    refine ⟨_, _, _, rfl, Bel.refl _, fun b hv => ?_⟩
    refine (contains_is none 0 0 [] side b 0 w Rd.nil rfl (by omega) ?_).mono fun e w' ⟨h1, h2⟩ => ⟨h1, h2 ▸ Bel.refl _⟩
    rw [← hv, decide_eq_decide]
    simp [Valid]
    omega

theorem des_no (side set : Int) (w : World) (hv : ¬ Valid side set) : Calls Tryd.prog 17 #[.int .i64 side, .int .i64 set] w fun e w' => e = .returned (.tuple #[.slice none 0 0, .bool false]) ∧ Bel w w' := by
  have H := Lib.hid (decide_eq_false hv)
  clear hv
  go_enter Tryd.func17, Tryd.ntmps17
  go_wp2_with fail
  refine (sides_any side set w).mono ?_
  rintro e w1 ⟨A, n, c, rfl, hb, hcall⟩
  have HC := Lib.hid (hcall false H.out)
  clear hcall
  go_wp2_with fail
  refine HC.out.mono ?_
  rintro e w2 ⟨rfl, hb2⟩
  clear HC
  go_wp2
  go_ret2
  exact ⟨rfl, hb2⟩

section
variable {P : Program} {w : World}
theorem run_append_own_str {t u ty e : TypeId} {base : Nat} {i : TypeInfo} (ht : P.underlying t = some (.slice e)) (hu : P.underlying u = some .string) (hi : P.info? e = some i) (hz : i.zero = some (.int .u8 0))
    (hsize : i.size = 1) (hby : i.bytes = 1)
    {v : Value} {xs ys : List Int} (hown : Own w base e .u8 v xs) (hy : ∀ x ∈ ys, 0 ≤ x ∧ x < 256)
    (hn : xs.length + ys.length ≤ 100000) (hbase : base ≤ w.heap.size) :
    ∃ v' w', (Builtin.append_ #[t, u] ty #[v, .string (str ys)]).run P w = .ok v' w' ∧ Own w' base e .u8 v' (xs ++ ys) ∧ Below base w w' := by
  obtain ⟨v', w', hr, h2, h3, _⟩ := Lib.run_append_own_string (P := P) w base t u ty e i ht hu hi hz hsize hby v _ _ hown (str ys) (by rw [str_size]; simp only [maxLen]; omega) (by rw [str_size]; omega) hbase
  refine ⟨v', w', hr, ?_, (Below.refl _ _).grown h3 hbase fun g hg => (World.ownsRow.lt hown g hg).1⟩
  rw [str_cells hy, str_size] at h2
  unfold Own
  simpa using h2
theorem wpl_append_own_str {ops : Array Oper} {rest : List Oper} {o : Oper} {a : Act} {Q : Exit → Act → World → Prop} (hw : Region.wanted o (yielded ops a.tmps) = true) (s x : Operand) (t u : TypeId)
    (ho : o.op = .call { callee := .builtin .append, args := #[s, x], argTypes := #[t, u] })
    {e : TypeId} {base : Nat} {i : TypeInfo} (ht : P.underlying t = some (.slice e)) (hu : P.underlying u = some .string) (hi : P.info? e = some i) (hz : i.zero = some (.int .u8 0))
    (hsize : i.size = 1) (hby : i.bytes = 1)
    {v : Value} {xs ys : List Int} (hown : Own w base e .u8 v xs) (hs : a.eval s = v) (hx : a.eval x = .string (str ys)) (hy : ∀ x ∈ ys, 0 ≤ x ∧ x < 256)
    (hn : xs.length + ys.length ≤ 100000) (hbase : base ≤ w.heap.size)
    (h : ∀ v' w', Own w' base e .u8 v' (xs ++ ys) → Below base w w' → wpList P ops Q rest (a.put o.dst v') w') : wpList P ops Q (o :: rest) a w :=
  BigFrame.wpList_want hw fun _ hK => by
    obtain ⟨v', w', hrun, h2, h3⟩ := run_append_own_str (P := P) (ty := o.type) ht hu hi hz hsize hby hown hy hn hbase
    unfold Oper.wp execOp
    simp only [ho, resolve, invoke, builtin, Sem.run_bind, Sem.run_pure, Result.andThen_ok, List.map_toArray, List.map_cons, List.map_nil, hs, hx, hrun]
    exact hK _ _ (h v' w' h2 h3)
end

theorem des_basic (w : World) : Calls Tryd.prog 17 #[.int .i64 0, .int .i64 1] w (DesYes w [27, 115] 2) := by
  have H := Lib.hid (decide_eq_true (p := Valid 0 1) (by decide))
  go_enter Tryd.func17, Tryd.ntmps17
  go_wp2_with fail
  refine (sides_any 0 1 w).mono ?_
  rintro e w1 ⟨A, n, c, rfl, hb, hcall⟩
  have HC := Lib.hid (hcall true H.out)
  clear hcall
  go_wp2_with fail
  refine HC.out.mono ?_
  rintro e w2 ⟨rfl, hb2⟩
  clear HC
  go_wp2
  go_ret2
  exact ⟨w2.heap.size, 2, rfl, by omega, (rd_lit (l := [27, 115]) rfl).here, hb2.alloc _, (Own.lit w2 5 .u8 (cs := #[.int .u8 27, .int .u8 115]) (l := [27, 115]) (n := 2) rfl rfl (by omega)).less (Below.size hb2)⟩

theorem des_fin {w w' : World} {base n : Nat} {v : Value} {a b l : List Int} (hl : 27 :: a ++ b = l) (hn : l.length = n) (h : Own w' base 5 .u8 v ([27] ++ a ++ b)) (hb : Bel w w') (hbase : w.heap.size ≤ base) : DesYes w l n (.returned (.tuple #[v, .bool true])) w' := by
  rw [show [27] ++ a ++ b = l by rw [← hl]; simp] at h
  have h0 : 0 < l.length := by rw [← hl]; simp
  subst hn
  rcases h.2 with ⟨_, h1⟩ | ⟨g, cap, cur, rfl, _, _, hc, _, _, _⟩
  · omega
  · obtain ⟨A, cap', e, h1, h2, h3⟩ := h.rd
    cases e
    exact ⟨g, cap, rfl, hc, h2, hb, h.less hbase⟩

set_option maxHeartbeats 1000000 in
theorem des_other (side : Int) (k n : Nat) (l L : List Int) (w : World) (hT : Tb w) (hv : Valid side k) (hn1 : ¬ (side = 0 ∧ (k : Int) = 1)) (hL : lastT[k]? = some L) (hl : 27 :: headL side k ++ L = l) (hn : l.length = n) :
    Calls Tryd.prog 17 #[.int .i64 side, .int .i64 k] w (DesYes w l n) := by
  obtain ⟨i0, hi0, hz0, hz1, hz2⟩ := info_parts info5
  have H := Lib.hid (decide_eq_true hv)
  have hk0 : (0 : Int) ≤ (k : Int) := by omega
  have hk1 : (k : Int) < 13 := by have := hv.2.2.1; omega
  have hq : (side == 0) = false ∨ ((side == 0) = true ∧ ((k : Int) == 1) = false) := by
    by_cases h : side = 0
    · exact .inr ⟨by simp [h], by have := mt (And.intro h) hn1; simpa using this⟩
    · exact .inl (by simpa using h)
  obtain ⟨a1, a2⟩ := heads_ok _ (valid_mem hv)
  obtain ⟨b1, b2⟩ := lasts_ok L (List.mem_of_getElem? hL)
  obtain ⟨hd, hhd⟩ : ∃ hd, headL side k = hd := ⟨_, rfl⟩
  simp only [hhd] at a1 a2 hl
  have HD := Lib.hid (congrArg str hhd)
  have HT := Lib.hid hT
  have HLs := Lib.hid hL
  have A1 := Lib.hid a1
  have B1 := Lib.hid b1
  have HL := Lib.hid hl
  have HN := Lib.hid hn
  clear hv hn1 hT hhd a1 b1 hl hn hL
  rcases hq with hq | ⟨hq, hq1⟩
  all_goals
    go_enter Tryd.func17, Tryd.ntmps17
    go_wp2_with fail
    refine (sides_any side k w).mono ?_
    rintro e w1 ⟨A, m, c, rfl, hb, hcall⟩
    have HC := Lib.hid (hcall true H.out)
    clear hcall
    go_wp2_with fail
    refine HC.out.mono ?_
    rintro e w2 ⟨rfl, hb2⟩
    clear HC
    have HO := Lib.hid (Own.lit w2 5 .u8 (cs := #[.int .u8 27]) (l := [27]) (n := 1) rfl rfl (by omega))
    go_wp2_with (first
      | (go_at_call 27; (with_reducible refine (head_is _ _ _ _ HD.out).mono ?_); rintro e w3 ⟨rfl, rfl⟩)
      | (at_builtin; refine wpl_append_own_str (by rfl) (.tmp 19) (.tmp 22) 22 9 rfl Tryd.underlying22 Tryd.underlying9 hi0 hz0 hz1 hz2 HO.out rfl rfl A1.out (by simp; omega) (by simp) ?_; intro v3 w3 hown3 hb3; have hb3' : Bel w2 w3 := Below.trans ((Bel.refl w2).alloc _) hb3; have hc := ((HT.out.bel hb2).bel hb3') k L HLs.out; have hsz := Below.size hb3'; have HO3 := Lib.hid hown3; clear hown3)
      | (at_builtin; refine wpl_append_own_str (by rfl) (.tmp 24) (.tmp 27) 22 9 rfl Tryd.underlying22 Tryd.underlying9 hi0 hz0 hz1 hz2 HO3.out rfl rfl B1.out (by simp; omega) hsz ?_; intro v4 w4 hown4 hb4)
      | fail)
    go_ret2
    exact des_fin HL.out HN.out hown4 (hb2.trans (Below.trans hb3' hb4)) (Below.size hb2)


theorem des_yes (side set : Int) (l : List Int) (n : Nat) (w : World) (hT : Tb w) (hv : Valid side set) (hl : desL side set = l) (hn : l.length = n) :
    Calls Tryd.prog 17 #[.int .i64 side, .int .i64 set] w (DesYes w l n) := by
  by_cases h : side = 0 ∧ set = 1
  · obtain ⟨rfl, rfl⟩ := h
    obtain rfl : l = [27, 115] := hl.symm
    obtain rfl : n = 2 := hn.symm
    exact des_basic w
  · obtain ⟨k, rfl⟩ : ∃ k : Nat, set = k := ⟨set.toNat, by have := hv.2.1; omega⟩
    obtain ⟨L, h1, h2, _, _⟩ := lastT_at hv.2.1 hv.2.2.1
    unfold desL at hl
    rw [if_neg h, h2] at hl
    exact des_other side k n l L w hT hv h h1 hl hn
end Go.Proofs.YthdggdjaicfapaaDoor.U
