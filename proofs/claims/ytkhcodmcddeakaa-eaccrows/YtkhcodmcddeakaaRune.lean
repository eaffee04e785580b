/- What eacc.Rune answers of any number: the character that the chapter's runs have for it, or none. No condition. -/
import Derived.Test.YtkhcodmcddeakaaRange
namespace Go.Proofs.Ytkhcodmcddeakaa.U
open Go.RowKit Go.Shelf
set_option linter.unusedVariables false
attribute [local go_sem] Oper.semAt_some

theorem bel_put {w W : World} {l : Nat} (h : Bel w W) (hl : w.heap.size ≤ l) (o : Obj) : Bel w (W.putObj l o) :=
  ⟨h.os, h.tape, h.output, by rw [World.putObj_size]; exact h.size, fun j hj => (World.putObj_heap_other (by omega)).trans (h.block j hj)⟩
theorem boxed_put {W : World} {B t l : Nat} {v : Value} (h : Boxed W B t v) (hl : B ≠ l) (o : Obj) : Boxed (W.putObj l o) B t v := (World.putObj_heap_other hl).trans h
theorem boxed_bel {W W' : World} {B t : Nat} {v : Value} (h : Boxed W B t v) (hb : Bel W W') : Boxed W' B t v := (hb.block B h.lt).trans h
theorem boxed_iter {W : World} {B t G : Nat} {v : Value} (h : Boxed W B t v) (hg : B ≠ G) (s : ByteArray) (p : Nat) : Boxed (W.iterAt G s p) B t v := (Lib.iterAt_other W G B s p hg).trans h

/-- What runFor tells is a run of the chapter's, or none. -/
theorem fc_good (o : Option Nat) (ho : ∀ k, o = some k → k < 10) : ∃ f T b, fc (strAt Try.f11) o = #[.int .i64 f, .string T, .bool b] ∧ tabO o = codesOf f (decs T T.size 0) ∧ (0 ≤ f ∧ f ≤ 16777216) ∧ T.size < 1000 := by
  cases o with
  | none => exact ⟨0, ⟨#[]⟩, false, rfl, rfl, by omega, by decide⟩
  | some k =>
    have hk := ho k rfl
    exact ⟨fst k, strAt Try.f11 k, alt k, rfl, by rw [(good hk).1]; rfl, fst_range k hk, (good hk).2⟩

/-- Between two rounds. -/
def Inv (n : Int) (B : Nat) (w : World) (pre : List (Int × Int)) (W : World) : Prop :=
  (∀ p ∈ pre, p.1 ≠ n) ∧ Boxed W B 3 (.int .i64 n) ∧ Boxed W (B + 1) 21 (.int .i32 0) ∧ Boxed W (B + 2) 4 (.bool false) ∧ Bel w W
/-- A round has found it. -/
def Fnd (tb : List (Int × Int)) (n : Int) (B : Nat) (w : World) (W : World) : Prop :=
  ∃ r, look tb n = (r, true) ∧ Boxed W (B + 1) 21 (.int .i32 r) ∧ Boxed W (B + 2) 4 (.bool true) ∧ Bel w W

theorem Inv.put {n : Int} {B l : Nat} {w W : World} {pre : List (Int × Int)} (h : Inv n B w pre W) (h1 : B + 2 < l) (h2 : w.heap.size ≤ l) (o : Obj) : Inv n B w pre (W.putObj l o) :=
  ⟨h.1, boxed_put h.2.1 (by omega) o, boxed_put h.2.2.1 (by omega) o, boxed_put h.2.2.2.1 (by omega) o, bel_put h.2.2.2.2 h2 o⟩
theorem Inv.bel {n : Int} {B : Nat} {w W W' : World} {pre : List (Int × Int)} (h : Inv n B w pre W) (hb : Bel W W') : Inv n B w pre W' :=
  ⟨h.1, boxed_bel h.2.1 hb, boxed_bel h.2.2.1 hb, boxed_bel h.2.2.2.1 hb, h.2.2.2.2.trans hb⟩
theorem Inv.iter {n : Int} {B G : Nat} {w W : World} {pre : List (Int × Int)} (h : Inv n B w pre W) (h1 : B + 2 < G) (h2 : w.heap.size ≤ G) (s : ByteArray) (p : Nat) : Inv n B w pre (W.iterAt G s p) :=
  ⟨h.1, boxed_iter h.2.1 (by omega) s p, boxed_iter h.2.2.1 (by omega) s p, boxed_iter h.2.2.2.1 (by omega) s p, Lib.below_iterAt h.2.2.2.2 h2 s p⟩
theorem Fnd.put {tb : List (Int × Int)} {n : Int} {B l : Nat} {w W : World} (h : Fnd tb n B w W) (h1 : B + 2 < l) (h2 : w.heap.size ≤ l) (o : Obj) : Fnd tb n B w (W.putObj l o) := by
  obtain ⟨r, h0, h3, h4, h5⟩ := h
  exact ⟨r, h0, boxed_put h3 (by omega) o, boxed_put h4 (by omega) o, bel_put h5 h2 o⟩

set_option maxRecDepth 100000 in
set_option maxHeartbeats 2000000 in
theorem rune_is (n : Int) (w : World) : Calls Try.prog 6 #[.int .i64 n] w fun e w' => e = .returned (.tuple #[.int .i32 (runeL n).1, .bool (runeL n).2]) ∧ Bel w w' := by
  obtain ⟨f, T, b, hfc, htb, hf, hT⟩ := fc_good (best n 10) (fun k h => best_lt h)
  have HR := Lib.hid (fun w => by have := runFor_is n w; rw [hfc] at this; exact this : ∀ w, Calls Try.prog 9 #[.int .i64 n] w fun e w' => e = .returned (.agg #[.int .i64 f, .string T, .bool b]) ∧ Bel w w')
  unfold runeL
  generalize tabO (best n 10) = tb at htb ⊢
  have HTB := Lib.hid htb
  have HF := Lib.hid hf
  have HTS := Lib.hid hT
  clear hfc htb hf hT
  refine (callsIn_wide (n := 4)).1 ?_
  refine callsIn_of_wp_marks Try.func6 rfl trivial ?_ rfl
  simp only [Try.ntmps6, List.size_toArray, List.length_cons, List.length_nil, Nat.reduceAdd, Nat.reduceSub, Array.replicate_succ, Array.replicate_zero, List.push_toArray, List.append_toArray, List.nil_append, List.cons_append]
  gi_wp2_with fail
  refine ⟨trivial, ?_⟩
  gi_at_call 9
  refine (callsIn_wide.2 (HR.out _)).mono ?_
  rintro e Wz ⟨rfl, hb2⟩
  have b1 : Boxed (((w.alloc (.cells #[.int .i64 n] 3)).alloc (.cells #[.int .i32 0] 21)).alloc (.cells #[.bool false] 4)) w.heap.size 3 (.int .i64 n) := ((Boxed.new w 3 _).alloc _).alloc _
  have b2 : Boxed (((w.alloc (.cells #[.int .i64 n] 3)).alloc (.cells #[.int .i32 0] 21)).alloc (.cells #[.bool false] 4)) (w.heap.size + 1) 21 (.int .i32 0) := by
    have h := (Boxed.new (w.alloc (.cells #[.int .i64 n] 3)) 21 (.int .i32 0)).alloc (.cells #[.bool false] 4)
    rwa [World.size_alloc] at h
  have b3 : Boxed (((w.alloc (.cells #[.int .i64 n] 3)).alloc (.cells #[.int .i32 0] 21)).alloc (.cells #[.bool false] 4)) (w.heap.size + 2) 4 (.bool false) := by
    have h := Boxed.new ((w.alloc (.cells #[.int .i64 n] 3)).alloc (.cells #[.int .i32 0] 21)) 4 (.bool false)
    rwa [World.size_alloc, World.size_alloc] at h
  have hB : Bel w (((w.alloc (.cells #[.int .i64 n] 3)).alloc (.cells #[.int .i32 0] 21)).alloc (.cells #[.bool false] 4)) := (((Bel.refl w).alloc _).alloc _).alloc _
  have hz : w.heap.size + 3 ≤ Wz.heap.size := by
    have h := Below.size hb2
    simpa using h
  have HI0 := Lib.hid (⟨by simp, boxed_bel b1 hb2, boxed_bel b2 hb2, boxed_bel b3 hb2, hB.trans hb2⟩ : Inv n w.heap.size w [] Wz)
  have HZ := Lib.hid hz
  clear b1 b2 b3 hB hz hb2
  gi_wp2_with fail
  have eq2 : w.heap.size + 2 = w.heap.size + 1 + 1 := rfl
  refine range_codes tb (by decide) rfl (enters_of Try.func10 (by kernel_rfl) rfl) rfl (Inv n w.heap.size w) (Fnd tb n w.heap.size w)
    (fun pre W o L h _ => h.put (by have := HZ.out; omega) (by have := HZ.out; omega) o) (fun W o L h _ => h.put (by have := HZ.out; omega) (by have := HZ.out; omega) o) (fun pre W o h => h.bel ((Bel.refl W).alloc o))
    (fun pre W G s p p' h hG hs => h.iter (by have := HZ.out; omega) (by have := HZ.out; omega) s p') HI0.out
    (fun x => { tmps := #[.int .i64 n, .pointer (some ⟨w.heap.size, 0, none⟩), .pointer (some ⟨w.heap.size + 1, 0, none⟩), .pointer (some ⟨w.heap.size + 1 + 1, 0, none⟩), .int .i64 x.1, .int .i32 x.2, .int .i64 n, .agg #[.int .i64 f, .string T, .bool b], .func (.func 10) #[.agg #[.int .i64 f, .string T, .bool b]] #[], .int .i64 x.1, .int .i32 x.2, undef, undef, undef, undef], defers := [] }) ?assign ?body ?it ?done ?stop
  case assign =>
    intro l x W K hK
    gi_wp2
    exact hK
  case it =>
    intro J Jx hJa hJi hY W hl hj
    exact codes_in 3 _ (by decide) f T b HF.out HTS.out tb HTB.out (Wz.heap.size + 2) J Jx hJa hJi hY W hl (by omega) hj
  case body =>
    rintro l pre x W ⟨hp, c1, c2, c3, hB⟩ hx
    rw [eq2] at c3
    have k1 := c1.cell
    have k2 := c2.cell
    have k3 := c3.cell
    have f2 := c2.frozen
    have f3 := c3.frozen
    have HC2 := Lib.hid c2
    have HC3 := Lib.hid c3
    have HC1 := Lib.hid c1
    have HB := Lib.hid hB
    have HX := Lib.hid hx
    have HP := Lib.hid hp
    clear c1 c2 c3 hB hx hp
    gi_wp2
    · rename_i he
      have he' : x.1 = n := by simpa using he
      obtain ⟨rest, hr⟩ := HX.out
      refine ⟨(KeepsOthers.setCell _ _ _).trans (KeepsOthers.setCell _ _ _), x.2, ?_, ?_, ?_, ?_⟩
      · exact look_hit (rest := rest) (by rw [hr, ← he']) HP.out
      · exact (HC2.out.set _).other (by omega) _
      · exact (HC3.out.other (by omega) _).set _
      · exact (Below.setCell HB.out (p := ⟨w.heap.size + 1, 0, none⟩) (by simp) _).setCell (p := ⟨w.heap.size + 1 + 1, 0, none⟩) (by simp; omega) _
    · rename_i he
      refine ⟨KeepsOthers.refl _, fun p hp => ?_, HC1.out, HC2.out, HC3.out, HB.out⟩
      rcases List.mem_append.1 hp with hp | hp
      · exact HP.out p hp
      · simp at hp
        subst hp
        simpa using he
  case done =>
    rintro W ⟨hp, c1, c2, c3, hB⟩ hK
    rw [eq2] at c3
    have k2 := c2.cell
    have k3 := c3.cell
    have f2 := c2.frozen
    have f3 := c3.frozen
    gi_wp2
    have hK' := ((KeepsOthers.setCell W ⟨w.heap.size + 1, 0, none⟩ (.int .i32 0)).trans (KeepsOthers.setCell _ ⟨w.heap.size + 1 + 1, 0, none⟩ (.bool false))).same _ _ hK rfl
    have d2 := boxed_put ((c2.set (.int .i32 0)).other (B' := w.heap.size + 1 + 1) (by omega) (.bool false)) (l := Wz.heap.size) (by have := HZ.out; omega) (.deferred none)
    have d3 := boxed_put ((c3.other (B' := w.heap.size + 1) (by omega) (.int .i32 0)).set (.bool false)) (l := Wz.heap.size) (by have := HZ.out; omega) (.deferred none)
    have e2 := d2.cell
    have e3 := d3.cell
    refine ⟨by simp, .inl ⟨_, _, rfl, run_takeDeferred hK', ?_⟩⟩
    rw [look_miss hp]
    refine ⟨.tuple #[.int .i32 0, .bool false], ?_, rfl, bel_put ((Below.setCell hB (p := ⟨w.heap.size + 1, 0, none⟩) (by simp) _).setCell (p := ⟨w.heap.size + 1 + 1, 0, none⟩) (by simp; omega) _) (by have := HZ.out; omega) _⟩
    simp [results, Try.f6, go_sem, e2, e3]
  case stop =>
    rintro W ⟨r, hr, c2, c3, hB⟩ hK
    rw [eq2] at c3
    have d2 := boxed_put c2 (l := Wz.heap.size) (by have := HZ.out; omega) (.deferred none)
    have d3 := boxed_put c3 (l := Wz.heap.size) (by have := HZ.out; omega) (.deferred none)
    have e2 := d2.cell
    have e3 := d3.cell
    gi_wp2
    refine ⟨by simp, .inl ⟨_, _, rfl, run_takeDeferred hK, ?_⟩⟩
    refine ⟨.tuple #[.int .i32 r, .bool true], ?_, rfl, bel_put hB (by have := HZ.out; omega) _⟩
    simp [results, Try.f6, go_sem, e2, e3]
end Go.Proofs.Ytkhcodmcddeakaa.U
