/- What ncr.Has and ncr.Expand answer. At most 10000 characters. -/
import Derived.Test.YtfggeofknmdmfaaDoorScan
namespace Go.Proofs.YtfggeofknmdmfaaDoor.U
open Go.RowKit
set_option linter.unusedVariables false

theorem rd_lit {w : World} {cs : Array Value} {l : List Int} {k : IntKind} {t : TypeId} (h : cs.toList = l.map (Value.int k)) : Rd (w.alloc (.cells cs t)) (w.heap.size + 1) k (some ⟨w.heap.size, 0, none⟩) l := fun i x hx => by
  refine ⟨w.heap.size, 0, rfl, by omega, ?_⟩
  have e : cs = (l.map (Value.int k)).toArray := by rw [← h]
  have h1 := World.cell?_alloc_mark w cs t (0, 0) i
  rw [Nat.zero_add]
  refine h1.trans ?_
  rw [e]
  simp [hx]

theorem info21 : (Tryd.prog.info? 21).map (fun i => (i.zero, i.size, i.bytes)) = some (some (.int .i32 0), 1, 4) := by kernel_rfl
theorem info5 : (Tryd.prog.info? 5).map (fun i => (i.zero, i.size, i.bytes)) = some (some (.int .u8 0), 1, 1) := by kernel_rfl

def HasPost (w : World) (l : List Int) (e : Ending) (w' : World) : Prop := ∃ b, e = .returned (.bool b) ∧ HasIs l b ∧ Bel w w'
def HasRel (W : World) (l : List Int) (i : Value) (w : World) : Prop := ∃ k : Nat, i = .int .i64 k ∧ k ≤ l.length ∧ (∀ j, j < k → NoRef (l.drop j)) ∧ Bel W w
theorem noref_nil : NoRef [] := fun r t hr e => by
  have := ref_pos hr
  have h2 := congrArg List.length e
  simp at h2
  omega
theorem has_end {l : List Int} {k : Nat} (h : ∀ j, j < k → NoRef (l.drop j)) (hk : l.length ≤ k) : HasIs l false := .inl ⟨rfl, fun i => by
  by_cases hi : i < k
  · exact h i hi
  · rw [List.drop_eq_nil_of_le (by omega)]; exact noref_nil⟩
theorem has_yes {l : List Int} {k n : Nat} {v : Int} (h : Scans (l.drop k) v n) (hn : 0 < n) : HasIs l true := by
  rcases h with ⟨hs, _, t, ht⟩ | ⟨_, rfl, _⟩
  · exact .inr ⟨rfl, k, v, t, hs, ht⟩
  · omega
theorem has_next {l : List Int} {k : Nat} {v : Int} (h : ∀ j, j < k → NoRef (l.drop j)) (hs : Scans (l.drop k) v 0) : ∀ j, j < k + 1 → NoRef (l.drop j) := fun j hj => by
  by_cases e : j < k
  · exact h j e
  · obtain rfl : j = k := by omega
    rcases hs with ⟨hs, h0, _⟩ | ⟨_, _, hno⟩
    · have := ref_pos hs; omega
    · exact hno

def ExpPost (w : World) (l : List Int) (e : Ending) (w' : World) : Prop := ∃ v o, e = .returned v ∧ Exp l o ∧ Own w' w.heap.size 21 .i32 v o ∧ Bel w w'
def ExpRel (W : World) (l : List Int) (v i : Value) (w : World) : Prop :=
  ∃ (k : Nat) (out : List Int), i = .int .i64 k ∧ k ≤ l.length ∧ out.length ≤ k ∧ (∀ o, Exp (l.drop k) o → Exp l (out ++ o)) ∧ Own w W.heap.size 21 .i32 v out ∧ Bel W w
theorem exp_step1 {l out : List Int} {k : Nat} {x v : Int} (h : ∀ o, Exp (l.drop k) o → Exp l (out ++ o)) (hx : l[k]? = some x) (hs : Scans (l.drop k) v 0) : ∀ o, Exp (l.drop (k + 1)) o → Exp l (out ++ [x] ++ o) := fun o ho => by
  obtain ⟨hk, hx⟩ := List.getElem?_eq_some_iff.1 hx
  rw [List.append_assoc]
  refine h _ ?_
  rw [List.drop_eq_getElem_cons hk, hx] at hs ⊢
  rcases hs with ⟨hs, h0, _⟩ | ⟨_, _, hno⟩
  · have := ref_pos hs; omega
  · exact .one hno ho
theorem exp_step2 {l out : List Int} {k n : Nat} {v : Int} (h : ∀ o, Exp (l.drop k) o → Exp l (out ++ o)) (hs : Scans (l.drop k) v n) (hn : 0 < n) : k + n ≤ l.length ∧ ∀ o, Exp (l.drop (k + n)) o → Exp l (out ++ [v] ++ o) := by
  rcases hs with ⟨hs, hl, t, ht⟩ | ⟨_, rfl, _⟩
  · refine ⟨?_, fun o ho => ?_⟩
    · have e := congrArg List.length ht
      have := ref_pos hs
      simp at e
      omega
    · rw [List.append_assoc]
      refine h _ ?_
      have e : l.drop (k + n) = t := by rw [← List.drop_drop, ht, ← hl]; simp
      rw [e] at ho
      rw [ht]
      exact .ref hs ho
  · omega
theorem exp_fin {l out : List Int} {k : Nat} (h : ∀ o, Exp (l.drop k) o → Exp l (out ++ o)) (hk : l.length ≤ k) : Exp l out := by
  have := h [] (by rw [List.drop_eq_nil_of_le hk]; exact .nil)
  simpa using this

set_option maxHeartbeats 2000000 in
theorem has_any (A : Option Addr) (n c : Nat) (l : List Int) (B : Nat) (w : World) (h : Rd w B .i32 A l) (hn : l.length = n) (hcap : n ≤ c) (hbig : n ≤ 1000000) :
    Calls Tryd.prog 16 #[.slice A n c] w (HasPost w l) := by
  have H := Lib.hid h
  have HN := Lib.hid hn
  clear h hn
  go_enter Tryd.func16, Tryd.ntmps16
  go_wp2
  go_loopw [8] (fun i wr => HasRel w l i wr) (fun i _ => n - (intOf i).toNat)
  case atStart => exact ⟨0, rfl, Nat.zero_le _, fun j hj => by omega, Bel.refl _⟩
  case round =>
    obtain ⟨k, rfl, hk, hno, hb⟩ := hrel
    rw [HN.out] at hk
    have HO := Lib.hid hno
    clear hno
    by_cases hlt : k < n
    · obtain ⟨g, off, rfl, hg, hgw⟩ := H.out.isSome (by rw [HN.out]; omega)
      have HR : Hid (Rd wr B .i32 (some ⟨g, off + k, none⟩) (l.drop k)) := Lib.hid (H.out.bel hb).drop
      have q0 : (0 : Int) ≤ (k : Int) := by omega
      have q1 : (k : Int) < (n : Int) := by omega
      have q2 : (k : Int) ≤ (n : Int) := by omega
      have q3 : ¬ c = k := by omega
      have q4 : ¬ k = c := by omega
      go_wp2_with fail
      refine (scan_any _ (n - k) _ (l.drop k) B wr HR.out (by rw [List.length_drop, HN.out]) (by omega) (by omega)).mono ?_
      rintro e w1 ⟨v, n1, rfl, hS, hb1⟩
      have hr := scans_range hS
      by_cases h0 : n1 = 0
      · subst h0
        have HE := Lib.hid (has_next HO.out hS)
        clear hS
        go_wp2
        go_roundw
        case rel => exact ⟨k + 1, by go_num, by rw [HN.out]; omega, HE.out, hb.trans hb1⟩
        case measure => simp [intOf]; omega
      · have hp : (0 : Int) < (n1 : Int) := by omega
        have HE := Lib.hid (has_yes hS (by omega))
        clear hS
        go_wp2
        go_ret
        exact ⟨true, rfl, HE.out, hb.trans hb1⟩
    · have HE := Lib.hid (has_end HO.out (by rw [HN.out]; omega))
      go_wp2
      go_ret
      exact ⟨false, rfl, HE.out, hb⟩

set_option maxHeartbeats 2000000 in
theorem expand_any (A : Option Addr) (n c : Nat) (l : List Int) (B : Nat) (w : World) (h : Rd w B .i32 A l) (hn : l.length = n) (hcap : n ≤ c) (hbig : n ≤ 10000) :
    Calls Tryd.prog 15 #[.slice A n c] w (ExpPost w l) := by
  obtain ⟨i0, hi0, hz0, hz1, hz2⟩ := info_parts info21
  have H := Lib.hid h
  have HN := Lib.hid hn
  clear h hn
  go_enter Tryd.func15, Tryd.ntmps15
  go_wp2
  go_loopw [3, 4] (fun v i wr => ExpRel w l v i wr) (fun _ i _ => n - (intOf i).toNat)
  case atStart => exact ⟨0, [], rfl, Nat.zero_le _, Nat.le_refl _, fun o ho => by simpa using ho, Own.nil _ _ _ _, Bel.refl _⟩
  case round =>
    obtain ⟨k, out, rfl, hk, hout, hno, hown, hb⟩ := hrel
    rw [HN.out] at hk
    have HO := Lib.hid hno
    clear hno
    by_cases hlt : k < n
    · obtain ⟨g, off, rfl, hg, hgw⟩ := H.out.isSome (by rw [HN.out]; omega)
      have HR : Hid (Rd wr B .i32 (some ⟨g, off + k, none⟩) (l.drop k)) := Lib.hid (H.out.bel hb).drop
      obtain ⟨x, hx⟩ : ∃ x, l[k]? = some x := ⟨l[k]'(by rw [HN.out]; exact hlt), by simp⟩
      have q0 : (0 : Int) ≤ (k : Int) := by omega
      have q1 : (k : Int) < (n : Int) := by omega
      have q2 : (k : Int) ≤ (n : Int) := by omega
      have q3 : ¬ c = k := by omega
      have q4 : ¬ k = c := by omega
      have HX := Lib.hid hx
      clear hx
      go_wp2_with fail
      refine (scan_any _ (n - k) _ (l.drop k) B wr HR.out (by rw [List.length_drop, HN.out]) (by omega) (by omega)).mono ?_
      rintro e w1 ⟨v, n1, rfl, hS, hb1⟩
      have hr := scans_range hS
      have hc1 : w1.cell? ⟨g, off + k, none⟩ = some (.int .i32 x) := ((H.out.bel hb).bel hb1).at HX.out
      have hsz := Below.size hb
      have hsz1 := Below.size hb1
      by_cases h0 : n1 = 0
      · subst h0
        have HE := Lib.hid (exp_step1 HO.out HX.out hS)
        have HW := Lib.hid ((hown.keep hb1).keep ((Bel.refl w1).alloc (.cells #[.int .i32 x] 21)))
        clear hS hown
        go_wp2_with (at_builtin; refine wpl_append (by rfl) (.tmp 24) (.tmp 26) 22 rfl Tryd.underlying22 hi0 hz0 hz1 hz2 rfl (by omega) HW.out rfl (rd_lit (l := [x]) rfl) rfl rfl (fun e => by cases e) (by omega) (by simp; omega) ?_; intro v2 w2 hown2 hb2)
        have hbw2 : Bel w w2 := Below.trans ((hb.trans hb1).alloc _) hb2
        try go_wp2
        go_roundw
        case rel => exact ⟨k + 1, out ++ [x], by go_num, by rw [HN.out]; omega, by simp; omega, HE.out, hown2, hbw2⟩
        case measure => simp [intOf]; omega
      · have hp : ((n1 : Int) == 0) = false := by simp; omega
        have hE := exp_step2 HO.out hS (by omega)
        have hle := hE.1
        rw [HN.out] at hle
        have HE := Lib.hid hE.2
        have HW := Lib.hid ((hown.keep hb1).keep ((Bel.refl w1).alloc (.cells #[.int .i32 v] 21)))
        clear hS hE hown
        go_wp2_with (at_builtin; refine wpl_append (by rfl) (.tmp 24) (.tmp 26) 22 rfl Tryd.underlying22 hi0 hz0 hz1 hz2 rfl (by omega) HW.out rfl (rd_lit (l := [v]) rfl) rfl rfl (fun e => by cases e) (by omega) (by simp; omega) ?_; intro v2 w2 hown2 hb2)
        have hbw2 : Bel w w2 := Below.trans ((hb.trans hb1).alloc _) hb2
        try go_wp2
        go_roundw
        case rel => exact ⟨k + n1, out ++ [v], by go_num, by rw [HN.out]; omega, by simp; omega, HE.out, hown2, hbw2⟩
        case measure => simp [intOf]; omega
    · have HE := Lib.hid (exp_fin HO.out (by rw [HN.out]; omega))
      go_wp2
      go_ret
      exact ⟨_, out, rfl, HE.out, hown, hb⟩
end Go.Proofs.YtfggeofknmdmfaaDoor.U
