/- What lines.parts and lines.Text.Line answer of a checked text. Tables as they are laid. -/
import Derived.Test.YtdjaacmaljcnhaaDoorFlds
import Derived.Test.YtdjaacmaljcnhaaDoorChar
namespace Go.Proofs.YtdjaacmaljcnhaaDoor.U
open Go.RowKit Go.Shelf
set_option linter.unusedVariables false
attribute [local go_sem] Oper.semAt_some

theorem okLn_all {x : Ln} (h : okLn x = true) : x.l.length < 1000 ∧ Lib.trimSpaceD x.l = x.t ∧ x.t.length < 1000 ∧ x.ws.length < 1000 ∧ splB 10 x.l [x.l] = true ∧ fsr x.ws (x.ws.length + 1) (-1) 0 = some x.fs ∧ (∀ y ∈ x.fs, okW y = true) ∧ x.fs.length < 100 ∧ Lib.countByte x.ws 32 = x.k ∧ 0 ≤ x.st ∧ x.st < 65536 := by
  unfold okLn at h
  simp only [Bool.and_eq_true, decide_eq_true_eq, beq_iff_eq, List.all_eq_true] at h
  exact ⟨h.1.1.1.1.1.1.1.1.1.1.1, h.1.1.1.1.1.1.1.1.1.1.2, h.1.1.1.1.1.1.1.1.1.2, h.1.1.1.1.1.1.1.1.2, h.1.1.1.1.1.1.1.2, h.1.1.1.1.1.1.2, h.1.1.1.1.1.2, h.1.1.1.1.2, h.1.1.1.2, h.1.1.2, h.1.2⟩
theorem okLn_yes {x : Ln} (h : okLn x = true) (ho : x.ok = true) : Lib.cut x.t [32] = (x.h, x.ws, true) ∧ (∀ c ∈ nm x.h, isD c = true) ∧ 1 ≤ x.h.length ∧ x.h.length ≤ 4 ∧ num (nm x.h) = x.st ∧ x.st + x.k < 256 := by
  unfold okLn at h
  rw [ho] at h
  simp only [Bool.and_eq_true, decide_eq_true_eq, beq_iff_eq, List.all_eq_true] at h
  exact ⟨h.2.1.1.1.1.1, h.2.1.1.1.1.2, h.2.1.1.1.2, h.2.1.1.2, h.2.1.2, h.2.2⟩
theorem okLn_no {x : Ln} (h : okLn x = true) (ho : x.ok = false) : Lib.cut x.t [32] = (x.t, [], false) ∧ x.ws = [] ∧ x.st = 0 ∧ x.fs = [] := by
  unfold okLn at h
  rw [ho] at h
  simp only [Bool.and_eq_true, decide_eq_true_eq, beq_iff_eq] at h
  exact ⟨h.2.1.1.1, h.2.1.1.2, h.2.1.2, h.2.2⟩

set_option maxHeartbeats 1000000 in
theorem parts_is (x : Ln) (hx : okLn x = true) (w : World) (hT : Tz w) : Calls Tryd.prog 19 #[.string ⟨x.l.toArray⟩] w fun e w' => e = .returned (.tuple #[.int .i64 x.st, .string ⟨x.ws.toArray⟩, .bool x.ok]) ∧ Bel w w' := by
  obtain ⟨h1, h2, h3, h4, h5, h6, h7, h8, h9, h10, h11⟩ := okLn_all hx
  have HS := Lib.hid (fun w (h : Tz w) => strings_TrimSpace_any ⟨x.l.toArray⟩ w (by rw [size_of]; omega) h.1 h.2.1 h.2.2.1)
  have HT := Lib.hid hT
  rw [show Lib.trimSpaceD (⟨x.l.toArray⟩ : ByteArray).data.toList = x.t from h2] at HS
  obtain ⟨m, hm⟩ : ∃ m, w.cell? ⟨1, 0, none⟩ = some (.int .i64 m) := hT.2.2.2
  cases ho : x.ok with
  | false =>
    obtain ⟨c1, c2, c3, c4⟩ := okLn_no hx ho
    have HC := Lib.hid (fun w m hm => strings_Cut ⟨x.t.toArray⟩ ⟨#[32]⟩ m w (by rw [size_of]; omega) hm)
    rw [show Lib.cut (⟨x.t.toArray⟩ : ByteArray).data.toList (⟨#[32]⟩ : ByteArray).data.toList = (x.t, [], false) from c1] at HC
    rw [c2, c3]
    clear h1 h2 h3 h4 h5 h6 h7 h8 h9 h10 h11 c1 c2 c3 c4 hx ho hT
    go_enter Tryd.func19, Tryd.ntmps19
    go_wp2_with fail
    with_reducible refine (HS.out _ HT.out).mono ?_
    rintro e w1 ⟨rfl, hb1⟩
    have hm1 := (Below.cell hb1 (p := ⟨1, 0, none⟩) (cell_block hm)).trans hm
    go_wp2_with fail
    with_reducible refine (HC.out _ _ hm1).mono ?_
    rintro e w2 ⟨rfl, q, rfl⟩
    have HB := Lib.hid (Bel.drewN hb1 q)
    clear hb1 hm hm1 HS HC HT
    go_wp2
    go_ret3
    exact ⟨rfl, HB.out⟩
  | true =>
    obtain ⟨c1, c2, c3, c4, c5, c6⟩ := okLn_yes hx ho
    have HC := Lib.hid (fun w m hm => strings_Cut ⟨x.t.toArray⟩ ⟨#[32]⟩ m w (by rw [size_of]; omega) hm)
    rw [show Lib.cut (⟨x.t.toArray⟩ : ByteArray).data.toList (⟨#[32]⟩ : ByteArray).data.toList = (x.h, x.ws, true) from c1] at HC
    have HH := Lib.hid (fun w => hex_is (nm x.h) w c2 (by rw [nm_length]; exact c3) (by rw [nm_length]; exact c4) (by rw [c5]; exact h11))
    rw [str_nm, c5] at HH
    have r0 : -2147483648 ≤ x.st := by omega
    have r1 : x.st ≤ 2147483647 := by omega
    generalize x.st = st at HH h10 h11 r0 r1 ⊢
    clear h1 h2 h3 h4 h5 h6 h7 h8 h9 c1 c2 c3 c4 c5 c6 hx ho hT
    go_enter Tryd.func19, Tryd.ntmps19
    go_wp2_with fail
    with_reducible refine (HS.out _ HT.out).mono ?_
    rintro e w1 ⟨rfl, hb1⟩
    have hm1 := (Below.cell hb1 (p := ⟨1, 0, none⟩) (cell_block hm)).trans hm
    go_wp2_with fail
    with_reducible refine (HC.out _ _ hm1).mono ?_
    rintro e w2 ⟨rfl, q, rfl⟩
    have HB := Lib.hid (Bel.drewN hb1 q)
    clear hb1 hm hm1 HS HC HT
    go_wp2_with fail
    with_reducible refine (HH.out _).mono ?_
    rintro e w3 ⟨rfl, hb3⟩
    have HB3 := Lib.hid (HB.out.trans hb3)
    clear hb3 HB HH
    go_wp2
    go_ret3
    exact ⟨by first | rfl | (congr 4; omega), HB3.out⟩

def SeqMade (S : List UInt8) (c : UInt8) (w : World) (e : Ending) (w' : World) : Prop :=
  e = .returned (.func (.func 33) #[] #[.pointer (some ⟨w.heap.size + 1, 0, none⟩), .pointer (some ⟨w.heap.size, 0, none⟩), .pointer (some ⟨w.heap.size + 2, 0, none⟩)]) ∧ w'.heap.size = w.heap.size + 3 ∧ Bel w w' ∧
    Boxed w' w.heap.size 9 (.string ⟨S.toArray⟩) ∧ Boxed w' (w.heap.size + 1) 9 (.string ⟨#[c]⟩) ∧ Boxed w' (w.heap.size + 2) 3 (.int .i64 0)
theorem splitSeq_make (S : List UInt8) (c : UInt8) (w : World) : Calls Tryd.prog 18 #[.string ⟨S.toArray⟩, .string ⟨#[c]⟩] w (SeqMade S c w) := by
  have hin : Calls Tryd.prog 23 #[.string ⟨S.toArray⟩, .string ⟨#[c]⟩, .int .i64 0] w (SeqMade S c w) := by
    have hmf : ∀ (f : Nat) (args : Array Value) (w : World), (Instr.makeFunc (.func f) #[] args).run Tryd.prog w = .ok (.func (.func f) #[] args) w := fun f args w => rfl
    go_enter Tryd.func23, Tryd.ntmps23
    go_wp2
    go_ret
    have b1 : Boxed (((w.alloc (.cells #[.string ⟨S.toArray⟩] 9)).alloc (.cells #[.string ⟨#[c]⟩] 9)).alloc (.cells #[.int .i64 0] 3)) w.heap.size 9 (.string ⟨S.toArray⟩) := ((Boxed.new w 9 _).alloc _).alloc _
    have b2 : Boxed (((w.alloc (.cells #[.string ⟨S.toArray⟩] 9)).alloc (.cells #[.string ⟨#[c]⟩] 9)).alloc (.cells #[.int .i64 0] 3)) (w.heap.size + 1) 9 (.string ⟨#[c]⟩) := by
      have h := (Boxed.new (w.alloc (.cells #[.string ⟨S.toArray⟩] 9)) 9 (.string ⟨#[c]⟩)).alloc (.cells #[.int .i64 0] 3)
      rwa [World.size_alloc] at h
    have b3 : Boxed (((w.alloc (.cells #[.string ⟨S.toArray⟩] 9)).alloc (.cells #[.string ⟨#[c]⟩] 9)).alloc (.cells #[.int .i64 0] 3)) (w.heap.size + 2) 3 (.int .i64 0) := by
      have h := Boxed.new ((w.alloc (.cells #[.string ⟨S.toArray⟩] 9)).alloc (.cells #[.string ⟨#[c]⟩] 9)) 3 (.int .i64 0)
      rwa [World.size_alloc, World.size_alloc] at h
    exact ⟨rfl, by simp, (((Bel.refl w).alloc _).alloc _).alloc _, b1, b2, b3⟩
  go_enter Tryd.func18, Tryd.ntmps18
  go_wp2_with fail
  refine hin.mono ?_
  rintro e w1 ⟨rfl, h⟩
  go_wp2
  go_ret
  exact ⟨rfl, h⟩
theorem fieldsSeq_make (S : List UInt8) (w : World) : Calls Tryd.prog 21 #[.string ⟨S.toArray⟩] w fun e w' =>
    e = .returned (.func (.func 30) #[] #[.pointer (some ⟨w.heap.size, 0, none⟩)]) ∧ w'.heap.size = w.heap.size + 1 ∧ Bel w w' ∧ Boxed w' w.heap.size 9 (.string ⟨S.toArray⟩) := by
  go_enter Tryd.func21, Tryd.ntmps21
  go_wp2
  go_ret
  exact ⟨rfl, by simp, (Bel.refl w).alloc _, Boxed.new w 9 _⟩
end Go.Proofs.YtdjaacmaljcnhaaDoor.U
