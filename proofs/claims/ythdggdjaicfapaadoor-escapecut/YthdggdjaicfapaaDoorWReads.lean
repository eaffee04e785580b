/- EscapeReads's walk. -/
import Derived.Test.YthdggdjaicfapaaDoorEPrint
import Derived.Test.YthdggdjaicfapaaDoorInv
import Derived.Deep.Upon
namespace Go.Proofs.YthdggdjaicfapaaDoor.U
open Go.RowKit
set_option linter.unusedVariables false

/-- What both answer, by the bytes, the place and the sets. -/
def Outs (l : List Int) (z s0 s1 x0 x1 : Int) (N : Nat) (e0 e1 : Int) : Prop :=
  (NotThere l z ∧ x0 = 0 ∧ x1 = 0 ∧ N = 0 ∧ e0 = 1 ∧ e1 = z) ∨ ∃ k : Nat, (k : Int) = z ∧ l[k]? = some 27 ∧
    ((NoEsc (l.drop k) ∧ x0 = 0 ∧ x1 = 0 ∧ N = 0 ∧ e0 = 5 ∧ e1 = z) ∨ ∃ side set, Reads (l.drop k) side set N ∧ newst s0 s1 side set = .agg #[.int .i64 x0, .int .i64 x1] ∧ e0 = 0 ∧ e1 = 0)
def OutP (w : World) (x0 x1 : Int) (N : Nat) (e0 e1 : Int) (e : Ending) (w' : World) : Prop := e = .returned (.tuple #[.agg #[.int .i64 x0, .int .i64 x1], .int .i64 N, .agg #[.int .i64 e0, .int .i64 e1]]) ∧ Bel w w'
theorem outs_ex (l : List Int) (z s0 s1 : Int) : ∃ x0 x1 N e0 e1, Outs l z s0 s1 x0 x1 N e0 e1 := by
  by_cases h : NotThere l z
  · exact ⟨0, 0, 0, 1, z, .inl ⟨h, rfl, rfl, rfl, rfl, rfl⟩⟩
  · obtain ⟨k, rfl⟩ : ∃ k : Nat, (k : Int) = z := ⟨z.toNat, by
      have : ¬ z < 0 := fun hz => h (.inl hz)
      omega⟩
    have hk : l[k]? = some 27 := Classical.byContradiction fun hk => h (.inr ⟨k, rfl, hk⟩)
    by_cases hno : NoEsc (l.drop k)
    · exact ⟨0, 0, 0, 5, k, .inr ⟨k, rfl, hk, .inl ⟨hno, rfl, rfl, rfl, rfl, rfl⟩⟩⟩
    · obtain ⟨e, he, hp⟩ : ∃ e ∈ escs, e.1 <+: l.drop k := Classical.byContradiction fun hx => hno fun e he hp => hx ⟨e, he, hp⟩
      have hr : Reads (l.drop k) e.2.1 e.2.2 e.1.length := ⟨e.1, he, rfl, hp⟩
      by_cases hs : e.2.1 = 0
      · exact ⟨e.2.2, s1, e.1.length, 0, 0, .inr ⟨k, rfl, hk, .inr ⟨e.2.1, e.2.2, hr, by rw [newst, if_pos hs], rfl, rfl⟩⟩⟩
      · exact ⟨s0, e.2.2, e.1.length, 0, 0, .inr ⟨k, rfl, hk, .inr ⟨e.2.1, e.2.2, hr, by rw [newst, if_neg hs], rfl, rfl⟩⟩⟩
theorem out_of {w : World} {l : List Int} {k : Nat} {z s0 s1 x0 x1 : Int} {N : Nat} {e0 e1 : Int} (hz : (k : Int) = z) (hk : l[k]? = some 27) (ho : Outs l z s0 s1 x0 x1 N e0 e1) {e : Ending} {w' : World} (h : NextP w l k s0 s1 e w') : OutP w x0 x1 N e0 e1 e w' := by
  rcases ho with ⟨hn, _⟩ | ⟨k', hz', _, ho⟩
  · rcases hn with hn | ⟨k', hk', hn⟩
    · omega
    · obtain rfl : k' = k := by omega
      exact (hn hk).elim
  · obtain rfl : k' = k := by omega
    rcases ho with ⟨hno, rfl, rfl, rfl, rfl, rfl⟩ | ⟨side, set, hr, hs, rfl, rfl⟩
    · rcases h with ⟨_, h⟩ | ⟨s, t, N', hr, _⟩
      · rw [hz] at h
        exact h
      · exact (reads_no hr hno).elim
    · rcases h with ⟨hno, _⟩ | ⟨s, t, N', hr', h⟩
      · exact (reads_no hr hno).elim
      · obtain ⟨rfl, rfl, rfl⟩ := reads_one hr hr'
        unfold NextYes at h
        rw [hs] at h
        exact h
theorem next_out (A : Option Addr) (n c : Nat) (l : List Int) (z s0 s1 x0 x1 : Int) (N : Nat) (e0 e1 : Int) (w : World) (hT : Tb w) (hA : Rd w w.heap.size .u8 A l) (hn : l.length = n) (hc : n ≤ c) (hn' : n ≤ 9223372036854770000) (hb : ∀ x ∈ l, 0 ≤ x ∧ x < 256) (ho : Outs l z s0 s1 x0 x1 N e0 e1) :
    Calls Tryd.prog 8 #[.slice A n c, .int .i64 z, .agg #[.int .i64 s0, .int .i64 s1]] w (OutP w x0 x1 N e0 e1) := by
  by_cases h : NotThere l z
  · refine (next_arg A n c l z s0 s1 w hA hn hc h).mono ?_
    rintro e w' h'
    rcases ho with ⟨_, rfl, rfl, rfl, rfl, rfl⟩ | ⟨k, hz, hk, _⟩
    · exact h'
    · rcases h with h | ⟨k', h1, h2⟩
      · omega
      · obtain rfl : k' = k := by omega
        exact (h2 hk).elim
  · obtain ⟨k, hz⟩ : ∃ k : Nat, (k : Int) = z := ⟨z.toNat, by
      have : ¬ z < 0 := fun hz => h (.inl hz)
      omega⟩
    have hk : l[k]? = some 27 := Classical.byContradiction fun hk => h (.inr ⟨k, hz.symm, hk⟩)
    exact (next_at A n c k z l s0 s1 w hz hT hA hn hc hn' hb hk).mono fun e w' h' => out_of hz hk ho h'
theorem rnext_out (A : Option Addr) (n c : Nat) (l : List Int) (z s0 s1 x0 x1 : Int) (N : Nat) (e0 e1 : Int) (w : World) (hA : Rd w w.heap.size .u8 A l) (hn : l.length = n) (hc : n ≤ c) (hn' : n ≤ 9223372036854770000) (hb : ∀ x ∈ l, 0 ≤ x ∧ x < 256) (ho : Outs l z s0 s1 x0 x1 N e0 e1) :
    Calls Tryd.prog 9 #[.slice A n c, .int .i64 z, .agg #[.int .i64 s0, .int .i64 s1]] w (OutP w x0 x1 N e0 e1) := by
  by_cases h : NotThere l z
  · refine (rnext_arg A n c l z s0 s1 w hA hn hc h).mono ?_
    rintro e w' h'
    rcases ho with ⟨_, rfl, rfl, rfl, rfl, rfl⟩ | ⟨k, hz, hk, _⟩
    · exact h'
    · rcases h with h | ⟨k', h1, h2⟩
      · omega
      · obtain rfl : k' = k := by omega
        exact (h2 hk).elim
  · obtain ⟨k, hz⟩ : ∃ k : Nat, (k : Int) = z := ⟨z.toNat, by
      have : ¬ z < 0 := fun hz => h (.inl hz)
      omega⟩
    have hk : l[k]? = some 27 := Classical.byContradiction fun hk => h (.inr ⟨k, hz.symm, hk⟩)
    exact (rnext_at A n c k z l s0 s1 w hz hA hn hc hn' hb hk).mono fun e w' h' => out_of hz hk ho h'

/-- A copy of a list: 'append' to a list of no room. -/
theorem run_copy {P : Program} {w : World} {t ty e : TypeId} {i : TypeInfo} {z : Value} {bytes : Nat} (ht : P.underlying t = some (.slice e)) (hi : P.info? e = some i) (hz : i.zero = some z)
    (hsize : i.size = 1) (hby : i.bytes = bytes) (hzs : z.cells.size = 1) (hb8 : bytes ≤ 8) (g : Nat)
    {k : IntKind} {B : Nat} {A : Option Addr} {m c : Nat} {ys : List Int} (hr : Rd w B k A ys) (hm : ys.length = m) (hn : m ≤ 100000) :
    ∃ A' c' w', (Builtin.append_ #[t, t] ty #[.slice (some ⟨g, 0, none⟩) 0 0, .slice A m c]).run P w = .ok (.slice A' m c') w' ∧ Rd w' w'.heap.size k A' ys ∧ m ≤ c' ∧ Bel w w' := by
  rcases Nat.eq_zero_or_pos m with h0 | h0
  · subst h0
    have hy : ys = [] := List.eq_nil_of_length_eq_zero hm
    subst hy
    refine ⟨_, 0, w, run_append_nothing (P := P) w t t ty e i ht hi (some ⟨g, 0, none⟩) 0 0 (Nat.le_refl _) (.slice A 0 c) ?_, Rd.nil, Nat.le_refl _, Bel.refl w⟩
    rcases A with _ | ⟨b, o, sp⟩
    · exact Src.ofNil w ht c
    · exact Src.ofSlice w ht ⟨b, o, sp⟩ 0 c [] (by simp) (fun j u h => by simp at h) (fun u h => by simp at h)
  · have hext : Ext w w.heap.size e k (.slice (some ⟨g, 0, none⟩) 0 0) [] := .inr ⟨g, 0, rfl, Rd.nil⟩
    obtain ⟨v', w', h1, h2, h3⟩ := run_append_ext (P := P) (ty := ty) (c := c) ht hi hz hsize hby hzs hb8 hext hr hm h0 (by simpa using hn) (Nat.le_refl _)
    obtain ⟨A', c', rfl, h4, h5, _⟩ := h2.rd
    rw [List.nil_append] at h1 h4 h5
    rw [hm] at h1 h4
    exact ⟨A', c', w', h1, h5, h4, h3⟩
end Go.Proofs.YthdggdjaicfapaaDoor.U
