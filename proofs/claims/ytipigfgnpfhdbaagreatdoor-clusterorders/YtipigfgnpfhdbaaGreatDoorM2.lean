/- What strconv.ParseInt answers of one to six digits of base 16, for 32 bits: their number. What 'character' answers of a word of at most four bytes: the one character that it is, or digits' number. Tables as they are laid. What lines.parts and lines.Text.Line answer of a checked text. Tables as they are laid. Within a round of a range over a function: a region that draws its order goes as outside of one. No condition. What lines.Text.Line answers of a checked text and any number: the one line that has a word for it, or none. Tables as they are laid. What lines.Text.Numbers tells of one checked line: each number that has a character, and the character, in order, until it is told to stop. Tables as they are laid. What latin.Ansel answers of any number: the character that the chapter's list has for it, or none. Tables as they are laid. What scripts.list and scripts.Rune answer of the six sets and of any number: the character that the chapter's list has for it, or none. Tables as they are laid. -/
import Derived.Test.YtipigfgnpfhdbaaGreatDoorChecked
import Derived.Test.YtipigfgnpfhdbaaGreatDoorM1
import Derived.LoopN
import Derived.Sort.QuietIn
import Derived.RegionIn
import Derived.Stop.RegionWithIn
namespace Go.Proofs.YtipigfgnpfhdbaaGreatDoor.U
open Go.RowKit
set_option linter.unusedVariables false

theorem or32 {c : Int} (h0 : 65 ≤ c) (h1 : c ≤ 70) : bits .or .u8 c 32 = c + 32 := by
  obtain rfl | rfl | rfl | rfl | rfl | rfl : c = 65 ∨ c = 66 ∨ c = 67 ∨ c = 68 ∨ c = 69 ∨ c = 70 := by omega
  all_goals decide +kernel
theorem lower_is (c : Int) (w : World) (h0 : 65 ≤ c) (h1 : c ≤ 70) : Calls Tryz.prog 185 #[.int .u8 c] w fun e w' => e = .returned (.int .u8 (c + 32)) ∧ w = w' := by
  go_enter Tryz.func185, Tryz.ntmps185
  go_wp2
  go_ret
  exact ⟨ret_int (or32 h0 h1), rfl⟩

theorem str_ne {S : ByteArray} {l : List Int} (hS : S = str l) (h : 1 ≤ l.length) : S.toList.isEmpty = false := by
  rw [← decide_eq_emptyBytes]
  refine decide_eq_false fun e => ?_
  have h2 := str_size l
  rw [← hS, e] at h2
  simp [ByteArray.size] at h2
  omega

def ParseRel (l : List Int) (u v i : Value) : Prop := ∃ (k : Nat) (a : Int), u = .bool false ∧ i = .int .i64 k ∧ k ≤ l.length ∧ v = .int .u64 a ∧ Hid (a = num (l.take k))

set_option maxRecDepth 100000 in
set_option maxHeartbeats 4000000 in
theorem parseUint_any (l : List Int) (n : Nat) (w : World) (hD : ∀ c ∈ l, isD c = true) (hn : l.length = n) (h1 : 1 ≤ n) (h6 : n ≤ 6) :
    Calls Tryz.prog 177 #[.string (str l), .int .i64 16, .int .i64 32] w fun e w' => e = .returned (.tuple #[.int .u64 (num l), .nilIface]) ∧ Bel w w' := by
  have hA : ∀ x ∈ l, 0 ≤ x ∧ x < 256 := fun x hx => by have := isD_true.1 (hD x hx); omega
  obtain ⟨cap, w1, hrun, hrd, hb⟩ := run_bytes_str (P := Tryz.prog) w 9 176 5 Tryz.underlying9 Tryz.underlying176 Tryz.underlying5 hA hn
  obtain ⟨S, hS⟩ : ∃ S, S = str l := ⟨_, rfl⟩
  have hne : S.toList.isEmpty = false := str_ne hS (by omega)
  rw [← hS] at hrun ⊢
  have hmv : IntKind.u64.wrap (IntKind.u64.wrap 4294967296 - 1) = 4294967295 := by
    rw [IntKind.wrap_u64, IntKind.wrap_u64]
    decide
  have HN := Lib.hid hn
  have HD := Lib.hid hD
  have HR := Lib.hid hrd
  have HB := Lib.hid hb
  clear hS hn hD hrd hA hb
  go_enter Tryz.func177, Tryz.ntmps177
  go_wp2
  go_loop [12, 13, 101] (fun u v i => ParseRel l u v i) (fun _ _ i => n - (intOf i).toNat)
  case atStart => exact ⟨0, 0, rfl, rfl, Nat.zero_le _, rfl, by simp [num, Hid]⟩
  case round =>
    obtain ⟨k, a, rfl, rfl, hk, rfl, ha⟩ := hrel
    rw [HN.out] at hk
    by_cases hlt : k < n
    · obtain ⟨x, hx⟩ : ∃ x, l[k]? = some x := ⟨l[k]'(by rw [HN.out]; exact hlt), by simp⟩
      have hc : w1.cell? ⟨w.heap.size, k, none⟩ = some (.int .u8 x) := by have := HR.out.at hx; rwa [Nat.zero_add] at this
      have hxD := HD.out x (List.mem_of_getElem? hx)
      have hr := num_range (l := l.take k) (fun c hc => HD.out c (List.mem_of_mem_take hc)) (by simp; omega)
      rw [← ha.out] at hr
      obtain ⟨a0, a1⟩ := hr
      have HX := Lib.hid hx
      have hs : num (l.take (k + 1)) = 16 * a + val x := by
        rw [List.take_add_one, HX.out, Option.toList_some, num_snoc, ← ha.out]
      clear hx
      rcases isD_true.1 hxD with ⟨x0, x1⟩ | ⟨x0, x1⟩
      · have hv : val x = x - 48 := by unfold val; rw [if_pos (by omega)]
        have hq : (x == 95) = false := by simp; omega
        have HS : Hid (a * 16 + (x - 48) = num (l.take (k + 1))) := Lib.hid (by rw [hs, hv]; omega)
        clear hs hv hxD ha
        go_wp2
        refine ⟨⟨k + 1, a * 16 + (x - 48), rfl, (by first | rfl | (congr 1; omega)), by rw [HN.out]; omega, (by first | rfl | (congr 1; omega)), HS⟩, by simp [intOf]; omega⟩
      · have hv : val x = x - 55 := by unfold val; rw [if_neg (by omega)]
        have hq : (x == 95) = false := by simp; omega
        have HS : Hid (a * 16 + (x - 55) = num (l.take (k + 1))) := Lib.hid (by rw [hs, hv]; omega)
        clear hs hv hxD ha
        go_wp2_with (go_at_call 185; (with_reducible refine (lower_is _ _ x0 x1).mono ?_); rintro e w' ⟨rfl, rfl⟩)
        refine ⟨⟨k + 1, a * 16 + (x - 55), rfl, (by first | rfl | (congr 1; omega)), by rw [HN.out]; omega, (by first | rfl | (congr 1; omega)), HS⟩, by simp [intOf]; omega⟩
    · have HS : Hid (a = num l) := Lib.hid (by rw [ha.out, List.take_of_length_le (by rw [HN.out]; omega)])
      clear ha
      go_wp2
      go_ret2
      exact ⟨by rw [HS.out]; rfl, HB.out⟩

theorem str_at {S : ByteArray} {l : List Int} {x : Int} (hS : S = str l) (hx : l[0]? = some x) (h : 0 < S.size) : (S[0]'h).toNat = x.toNat % 256 := by
  subst hS
  rcases l with _ | ⟨y, t⟩
  · simp at hx
  · simp at hx
    subst hx
    simp [str, bs, ByteArray.getElem_eq_getElem_data]

set_option maxRecDepth 100000 in
set_option maxHeartbeats 4000000 in
theorem iparseInt_any (l : List Int) (n : Nat) (w : World) (hD : ∀ c ∈ l, isD c = true) (hn : l.length = n) (h1 : 1 ≤ n) (h6 : n ≤ 6) :
    Calls Tryz.prog 166 #[.string (str l), .int .i64 16, .int .i64 32] w fun e w' => e = .returned (.tuple #[.int .i64 (num l), .nilIface]) ∧ Bel w w' := by
  have HP := Lib.hid (fun w => parseUint_any l n w hD hn h1 h6)
  obtain ⟨x, hx⟩ : ∃ x, l[0]? = some x := ⟨l[0]'(by omega), by simp⟩
  have hxD := isD_true.1 (hD x (List.mem_of_getElem? hx))
  have hr := num_range hD (by omega)
  obtain ⟨S, hS⟩ : ∃ S, S = str l := ⟨_, rfl⟩
  have hne : S.toList.isEmpty = false := str_ne hS (by omega)
  have hsz : S.size = n := by rw [hS, str_size, hn]
  have hat := fun h : 0 < S.size => str_at hS hx h
  rw [← hS] at HP ⊢
  generalize hv : num l = v at hr HP ⊢
  obtain ⟨v0, v1⟩ := hr
  clear hS hn hD hv hx
  go_enter Tryz.func166, Tryz.ntmps166
  go_wp2_with (go_at_call 177; (with_reducible refine (HP.out _).mono ?_); rintro e w' ⟨rfl, hb⟩)
  go_ret2
  exact ⟨rfl, hb⟩

theorem parseInt_any (l : List Int) (n : Nat) (w : World) (hD : ∀ c ∈ l, isD c = true) (hn : l.length = n) (h1 : 1 ≤ n) (h6 : n ≤ 6) :
    Calls Tryz.prog 154 #[.string (str l), .int .i64 16, .int .i64 32] w fun e w' => e = .returned (.tuple #[.int .i64 (num l), .nilIface]) ∧ Bel w w' := by
  have HP := Lib.hid (fun w => iparseInt_any l n w hD hn h1 h6)
  generalize str l = S at HP ⊢
  generalize num l = v at HP ⊢
  clear hn hD
  go_enter Tryz.func154, Tryz.ntmps154
  go_wp2_with (go_at_call 166; (with_reducible refine (HP.out _).mono ?_); rintro e w' ⟨rfl, hb⟩)
  go_ret2
  exact ⟨rfl, hb⟩

/-- What 'hexadecimal' answers of one to four digits. -/
theorem hex_is (l : List Int) (w : World) (hD : ∀ c ∈ l, isD c = true) (h1 : 1 ≤ l.length) (h4 : l.length ≤ 4) (h16 : num l < 65536) :
    Calls Tryz.prog 133 #[.string (str l)] w fun e w' => e = .returned (.int .i32 (num l)) ∧ Bel w w' := by
  have HP := Lib.hid (fun w => parseInt_any l l.length w hD rfl h1 (by omega))
  have v0 := (num_range hD (by omega)).1
  generalize str l = S at HP ⊢
  generalize num l = v at HP v0 h16 ⊢
  clear h1 h4 hD
  go_enter Tryz.func133, Tryz.ntmps133
  go_wp2_with (go_at_call 154; (with_reducible refine (HP.out _).mono ?_); rintro e w' ⟨rfl, hb⟩)
  go_ret
  exact ⟨by first | rfl | exact ret_int (by omega), hb⟩
end Go.Proofs.YtipigfgnpfhdbaaGreatDoor.U
namespace Go.Proofs.YtipigfgnpfhdbaaGreatDoor.U
open Go.RowKit
set_option linter.unusedVariables false

theorem okW_true {x : List UInt8} (h : okW x = true) : 1 ≤ x.length ∧ x.length ≤ 4 ∧ (¬ (Lib.decodeGo ⟨x.toArray⟩).2 = x.length → (∀ c ∈ nm x, isD c = true) ∧ num (nm x) < 65536) := by
  simp only [okW, Bool.and_eq_true, Bool.or_eq_true, decide_eq_true_eq, List.all_eq_true, beq_iff_eq] at h
  exact ⟨h.1.1, h.1.2, fun e => h.2.resolve_left e⟩
theorem nm_length (x : List UInt8) : (nm x).length = x.length := by simp [nm]

set_option maxHeartbeats 1000000 in
theorem char_is (x : List UInt8) (w : World) (hx : okW x = true) (hT : Tz w) :
    Calls Tryz.prog 124 #[.string ⟨x.toArray⟩] w fun e w' => e = .returned (.int .i32 (chr x)) ∧ Bel w w' := by
  obtain ⟨h1, h4, hD⟩ := okW_true hx
  have hs : (⟨x.toArray⟩ : ByteArray).size = x.length := size_of x
  have HD := Lib.hid (fun w (h : Tz w) => utf8_DecodeRuneInString ⟨x.toArray⟩ w h.2.1)
  have HT := Lib.hid hT
  by_cases e4 : (Lib.decodeGo ⟨x.toArray⟩).2 = x.length
  · have hc : chr x = ((Lib.decodeGo ⟨x.toArray⟩).1 : Int) := if_pos e4
    rw [hc]
    rw [← hs] at e4
    have he : (((Lib.decodeGo ⟨x.toArray⟩).2 : Int) == ((⟨x.toArray⟩ : ByteArray).size : Int)) = true := by rw [e4]; simp
    generalize (Lib.decodeGo ⟨x.toArray⟩).1 = v at HD ⊢
    generalize (Lib.decodeGo ⟨x.toArray⟩).2 = v2 at HD he ⊢
    generalize (⟨x.toArray⟩ : ByteArray) = S at HD he ⊢
    clear hc hD hx h1 h4 e4 hT hs
    go_enter Tryz.func124, Tryz.ntmps124
    go_wp2_with (go_at_call 138; (with_reducible refine (HD.out _ HT.out).mono ?_); rintro e w' ⟨rfl, hb⟩)
    go_ret
    exact ⟨rfl, hb⟩
  · obtain ⟨hd, hn⟩ := hD e4
    have HP := Lib.hid (fun w => hex_is (nm x) w hd (by rw [nm_length]; omega) (by rw [nm_length]; omega) hn)
    have hc : chr x = num (nm x) := if_neg e4
    rw [hc]
    rw [str_nm] at HP
    rw [← hs] at e4
    have he : (((Lib.decodeGo ⟨x.toArray⟩).2 : Int) == ((⟨x.toArray⟩ : ByteArray).size : Int)) = false := by simp; omega
    generalize num (nm x) = v at HP ⊢
    generalize (Lib.decodeGo ⟨x.toArray⟩).1 = v1 at HD
    generalize (Lib.decodeGo ⟨x.toArray⟩).2 = v2 at HD he
    generalize (⟨x.toArray⟩ : ByteArray) = S at HP HD he ⊢
    clear hc hd hn hD hx h1 h4 e4 hT hs
    go_enter Tryz.func124, Tryz.ntmps124
    go_wp2_with (go_at_call 138; (with_reducible refine (HD.out _ HT.out).mono ?_); rintro e w' ⟨rfl, hb⟩)
    go_wp2_with (go_at_call 133; (with_reducible refine (HP.out _).mono ?_); rintro e w'' ⟨rfl, hb2⟩)
    go_ret
    exact ⟨rfl, Bel.trans hb hb2⟩
end Go.Proofs.YtipigfgnpfhdbaaGreatDoor.U
namespace Go.Proofs.YtipigfgnpfhdbaaGreatDoor.U
open Go.RowKit Go.Shelf
set_option linter.unusedVariables false
attribute [local go_sem] Oper.semAt_some

theorem okLn_all {x : Ln} (h : okLn x = true) : x.l.length < 1000 ∧ Lib.trimSpaceD x.l = x.t ∧ x.t.length < 1000 ∧ x.ws.length < 1000 ∧ splB 10 x.l [x.l] = true ∧ fsr x.ws (x.ws.length + 1) (-1) 0 = some x.fs ∧ (∀ y ∈ x.fs, okW y = true) ∧ x.fs.length < 100 ∧ Lib.countByte x.ws 32 = x.k ∧ 0 ≤ x.st ∧ x.st < 65536 := by
  unfold okLn at h
  simp only [Bool.and_eq_true, decide_eq_true_eq, beq_iff_eq, List.all_eq_true] at h
  exact ⟨h.1.1.1.1.1.1.1.1.1.1.1, h.1.1.1.1.1.1.1.1.1.1.2, h.1.1.1.1.1.1.1.1.1.2, h.1.1.1.1.1.1.1.1.2, h.1.1.1.1.1.1.1.2, h.1.1.1.1.1.1.2, h.1.1.1.1.1.2, h.1.1.1.1.2, h.1.1.1.2, h.1.1.2, h.1.2⟩
theorem okLn_yes {x : Ln} (h : okLn x = true) (ho : x.ok = true) : Lib.cut x.t [32] = (x.h, x.ws, true) ∧ (∀ c ∈ nm x.h, isD c = true) ∧ 1 ≤ x.h.length ∧ x.h.length ≤ 4 ∧ num (nm x.h) = x.st ∧ x.st + x.k < 256 := by
  unfold okLn at h
  rw [ho] at h
  simp only [Bool.and_eq_true, decide_eq_true_eq, beq_iff_eq, List.all_eq_true] at h
  exact ⟨h.2.1.1.1.1.1, h.2.1.1.1.1.2, h.2.1.1.1.2, h.2.1.1.2, h.2.1.2, h.2.2⟩
theorem okLn_no {x : Ln} (h : okLn x = true) (ho : x.ok = false) : Lib.cut x.t [32] = (x.t, [], false) ∧ x.ws = [] ∧ x.st = 0 ∧ x.fs = [] := by
  unfold okLn at h
  rw [ho] at h
  simp only [Bool.and_eq_true, decide_eq_true_eq, beq_iff_eq] at h
  exact ⟨h.2.1.1.1, h.2.1.1.2, h.2.1.2, h.2.2⟩

set_option maxHeartbeats 1000000 in
theorem parts_is (x : Ln) (hx : okLn x = true) (w : World) (hT : Tz w) : Calls Tryz.prog 121 #[.string ⟨x.l.toArray⟩] w fun e w' => e = .returned (.tuple #[.int .i64 x.st, .string ⟨x.ws.toArray⟩, .bool x.ok]) ∧ Bel w w' := by
  obtain ⟨h1, h2, h3, h4, h5, h6, h7, h8, h9, h10, h11⟩ := okLn_all hx
  have HS := Lib.hid (fun w (h : Tz w) => strings_TrimSpace_any ⟨x.l.toArray⟩ w (by rw [size_of]; omega) h.1 h.2.1 h.2.2.1)
  have HT := Lib.hid hT
  rw [show Lib.trimSpaceD (⟨x.l.toArray⟩ : ByteArray).data.toList = x.t from h2] at HS
  obtain ⟨m, hm⟩ : ∃ m, w.cell? ⟨4, 0, none⟩ = some (.int .i64 m) := hT.2.2.2
  cases ho : x.ok with
  | false =>
    obtain ⟨c1, c2, c3, c4⟩ := okLn_no hx ho
    have HC := Lib.hid (fun w m hm => strings_Cut ⟨x.t.toArray⟩ ⟨#[32]⟩ m w (by rw [size_of]; omega) hm)
    rw [show Lib.cut (⟨x.t.toArray⟩ : ByteArray).data.toList (⟨#[32]⟩ : ByteArray).data.toList = (x.t, [], false) from c1] at HC
    rw [c2, c3]
    clear h1 h2 h3 h4 h5 h6 h7 h8 h9 h10 h11 c1 c2 c3 c4 hx ho hT
    go_enter Tryz.func121, Tryz.ntmps121
    go_wp2_with fail
    with_reducible refine (HS.out _ HT.out).mono ?_
    rintro e w1 ⟨rfl, hb1⟩
    have hm1 := (Below.cell hb1 (p := ⟨4, 0, none⟩) (cell_block hm)).trans hm
    go_wp2_with fail
    with_reducible refine (HC.out _ _ hm1).mono ?_
    rintro e w2 ⟨rfl, q, rfl⟩
    have HB := Lib.hid (Bel.drewN hb1 q)
    clear hb1 hm hm1 HS HC HT
    go_wp2
    go_ret3
    exact ⟨rfl, HB.out⟩
  | true =>
    obtain ⟨c1, c2, c3, c4, c5, c6⟩ := okLn_yes hx ho
    have HC := Lib.hid (fun w m hm => strings_Cut ⟨x.t.toArray⟩ ⟨#[32]⟩ m w (by rw [size_of]; omega) hm)
    rw [show Lib.cut (⟨x.t.toArray⟩ : ByteArray).data.toList (⟨#[32]⟩ : ByteArray).data.toList = (x.h, x.ws, true) from c1] at HC
    have HH := Lib.hid (fun w => hex_is (nm x.h) w c2 (by rw [nm_length]; exact c3) (by rw [nm_length]; exact c4) (by rw [c5]; exact h11))
    rw [str_nm, c5] at HH
    have r0 : -2147483648 ≤ x.st := by omega
    have r1 : x.st ≤ 2147483647 := by omega
    generalize x.st = st at HH h10 h11 r0 r1 ⊢
    clear h1 h2 h3 h4 h5 h6 h7 h8 h9 c1 c2 c3 c4 c5 c6 hx ho hT
    go_enter Tryz.func121, Tryz.ntmps121
    go_wp2_with fail
    with_reducible refine (HS.out _ HT.out).mono ?_
    rintro e w1 ⟨rfl, hb1⟩
    have hm1 := (Below.cell hb1 (p := ⟨4, 0, none⟩) (cell_block hm)).trans hm
    go_wp2_with fail
    with_reducible refine (HC.out _ _ hm1).mono ?_
    rintro e w2 ⟨rfl, q, rfl⟩
    have HB := Lib.hid (Bel.drewN hb1 q)
    clear hb1 hm hm1 HS HC HT
    go_wp2_with fail
    with_reducible refine (HH.out _).mono ?_
    rintro e w3 ⟨rfl, hb3⟩
    have HB3 := Lib.hid (HB.out.trans hb3)
    clear hb3 HB HH
    go_wp2
    go_ret3
    exact ⟨by first | rfl | (congr 4; omega), HB3.out⟩

def SeqMade (S : List UInt8) (c : UInt8) (w : World) (e : Ending) (w' : World) : Prop :=
  e = .returned (.func (.func 150) #[] #[.pointer (some ⟨w.heap.size + 1, 0, none⟩), .pointer (some ⟨w.heap.size, 0, none⟩), .pointer (some ⟨w.heap.size + 2, 0, none⟩)]) ∧ w'.heap.size = w.heap.size + 3 ∧ Bel w w' ∧
    Boxed w' w.heap.size 9 (.string ⟨S.toArray⟩) ∧ Boxed w' (w.heap.size + 1) 9 (.string ⟨#[c]⟩) ∧ Boxed w' (w.heap.size + 2) 3 (.int .i64 0)
theorem splitSeq_make (S : List UInt8) (c : UInt8) (w : World) : Calls Tryz.prog 120 #[.string ⟨S.toArray⟩, .string ⟨#[c]⟩] w (SeqMade S c w) := by
  have hin : Calls Tryz.prog 130 #[.string ⟨S.toArray⟩, .string ⟨#[c]⟩, .int .i64 0] w (SeqMade S c w) := by
    have hmf : ∀ (f : Nat) (args : Array Value) (w : World), (Instr.makeFunc (.func f) #[] args).run Tryz.prog w = .ok (.func (.func f) #[] args) w := fun f args w => rfl
    go_enter Tryz.func130, Tryz.ntmps130
    go_wp2
    go_ret
    have b1 : Boxed (((w.alloc (.cells #[.string ⟨S.toArray⟩] 9)).alloc (.cells #[.string ⟨#[c]⟩] 9)).alloc (.cells #[.int .i64 0] 3)) w.heap.size 9 (.string ⟨S.toArray⟩) := ((Boxed.new w 9 _).alloc _).alloc _
    have b2 : Boxed (((w.alloc (.cells #[.string ⟨S.toArray⟩] 9)).alloc (.cells #[.string ⟨#[c]⟩] 9)).alloc (.cells #[.int .i64 0] 3)) (w.heap.size + 1) 9 (.string ⟨#[c]⟩) := by
      have h := (Boxed.new (w.alloc (.cells #[.string ⟨S.toArray⟩] 9)) 9 (.string ⟨#[c]⟩)).alloc (.cells #[.int .i64 0] 3)
      rwa [World.size_alloc] at h
    have b3 : Boxed (((w.alloc (.cells #[.string ⟨S.toArray⟩] 9)).alloc (.cells #[.string ⟨#[c]⟩] 9)).alloc (.cells #[.int .i64 0] 3)) (w.heap.size + 2) 3 (.int .i64 0) := by
      have h := Boxed.new ((w.alloc (.cells #[.string ⟨S.toArray⟩] 9)).alloc (.cells #[.string ⟨#[c]⟩] 9)) 3 (.int .i64 0)
      rwa [World.size_alloc, World.size_alloc] at h
    exact ⟨rfl, by simp, (((Bel.refl w).alloc _).alloc _).alloc _, b1, b2, b3⟩
  go_enter Tryz.func120, Tryz.ntmps120
  go_wp2_with fail
  refine hin.mono ?_
  rintro e w1 ⟨rfl, h⟩
  go_wp2
  go_ret
  exact ⟨rfl, h⟩
theorem fieldsSeq_make (S : List UInt8) (w : World) : Calls Tryz.prog 123 #[.string ⟨S.toArray⟩] w fun e w' =>
    e = .returned (.func (.func 137) #[] #[.pointer (some ⟨w.heap.size, 0, none⟩)]) ∧ w'.heap.size = w.heap.size + 1 ∧ Bel w w' ∧ Boxed w' w.heap.size 9 (.string ⟨S.toArray⟩) := by
  go_enter Tryz.func123, Tryz.ntmps123
  go_wp2
  go_ret
  exact ⟨rfl, by simp, (Bel.refl w).alloc _, Boxed.new w 9 _⟩
end Go.Proofs.YtipigfgnpfhdbaaGreatDoor.U
namespace Go.Proofs.YtipigfgnpfhdbaaGreatDoor.U
open Go.RowKit Go.Shelf
set_option linter.unusedVariables false

/-- No defer statement among them. -/
def noDefer (ops : List Oper) : Bool := ops.all fun o => match o.op with
  | .defer _ => false
  | _ => true
theorem noDefer_at {ops : Array Oper} (h : noDefer ops.toList = true) {i : Nat} {o : Oper} (hi : ops[i]? = some o) : ∀ c, o.op ≠ .defer c := by
  intro c hc
  have hm : o ∈ ops.toList := by
    rw [Array.mem_toList_iff]
    exact Array.mem_of_getElem? hi
  have := List.all_eq_true.1 h o hm
  rw [hc] at this
  cases this
theorem wpOpIn_round {n : Nat} {P : Program} {ops : Array Oper} {Q : Exit → Act → World → Prop} (l : Nat) (hd : noDefer ops.toList = true) {i : Nat} {a : Act} {w : World} {K : Act → World → Prop}
    (h : wpOpIn Fence.wide n P ops Q i K a w) : wpOpIn (Fence.wide.inRound l) n P ops Q i K a w := by
  unfold wpOpIn at *
  cases ho : ops[i]? with
  | none =>
    simp only [ho] at h ⊢
    exact h
  | some o =>
    simp only [ho] at h ⊢
    by_cases hw : Region.wanted o (yielded ops a.tmps) = true
    · simp only [hw, if_true] at h ⊢
      refine ⟨h.1, ?_⟩
      have h2 := h.2
      rw [show Fence.wide.round = none from rfl, Oper.semAt_none] at h2
      rw [show (Fence.wide.inRound l).round = some l from rfl, Oper.semAt_some l _ _ (noDefer_at hd ho)]
      exact h2
    · simp only [hw] at h ⊢
      exact h
theorem wpAnyIn_round {n : Nat} {P : Program} {ops : Array Oper} {Q : Exit → Act → World → Prop} {md : Region.Mode} (l : Nat) (hd : noDefer ops.toList = true) : ∀ (fuel : Nat) (listed : Array Bool) (a : Act) (w : World),
    wpAnyIn Fence.wide n P md ops Q fuel listed a w → wpAnyIn (Fence.wide.inRound l) n P md ops Q fuel listed a w
  | 0, _, _, _, h => h
  | fuel + 1, _, _, _, h => ⟨h.1, fun i hi => wpOpIn_round l hd (wpOpIn_mono (fun a w k => wpAnyIn_round l hd fuel _ a w k) (h.2 i hi))⟩
/-- A region that only reads, whose callees only read: walked once, in the order of the text. -/
theorem quiet_round {n : Nat} {P : Program} {id l : Nat} {Q : Exit → Act → World → Prop} {a : Act} {w : World} {ops : List Oper} (hd : noDefer ops = true) (hm : P.follows .mixedOrders = true) (hB : Region.lexB .any ops.toArray = true)
    (h : wpQuietIn Fence.wide n P ops.toArray (fun w' => ∃ n, w' = w.drewN n) (fun a' => ∀ w', (∃ n, w' = w.drewN n) → Q .normal a' w') ops a) : (Code.region id ops.toArray true).wpIn (Fence.wide.inRound l) n P Q a w := by
  simp only [Region.lexB, Bool.and_eq_true] at hB
  refine wpIn_region_any hm (wpAnyIn_round l hd _ _ _ _ (wpAnyIn_of_quiet (C := fun w' => ∃ n, w' = w.drewN n) (Q := fun a' => ∀ w', (∃ n, w' = w.drewN n) → Q .normal a' w') rfl (fun _ w' hw' h => h w' hw') _ _ _ _ ⟨1, rfl⟩ ?_))
  have := wpAnyQIn_lex (F := Fence.wide) (n := n) (C := fun w' => ∃ n, w' = w.drewN n) (md := .any) hB.1 ops 0 (Array.replicate ops.toArray.size false) a (by simp) (by simpa using hB.2) h
  simpa using this
end Go.Proofs.YtipigfgnpfhdbaaGreatDoor.U
namespace Go.Proofs.YtipigfgnpfhdbaaGreatDoor.U
open Go.RowKit Go.Shelf
set_option linter.unusedVariables false
attribute [local go_sem] Oper.semAt_some

/-- Whether a line has a word for n. -/
def mt (n : Int) (x : Ln) : Bool := x.ok && decide (x.st ≤ n) && decide (n - x.st ≤ x.k)
theorem lineOf_at {rs : List Ln} {n : Int} {i : Nat} {y : Ln} (hi : rs[i]? = some y) (hb : ∀ z ∈ rs.take i, mt n z = false) (hy : mt n y = true) : lineOf rs n = y := by
  unfold lineOf
  have h : rs.find? (fun x => x.ok && decide (x.st ≤ n) && decide (n - x.st ≤ x.k)) = some y := by
    obtain ⟨hlt, hv⟩ := List.getElem?_eq_some_iff.1 hi
    have e : rs = rs.take i ++ y :: rs.drop (i + 1) := by
      conv => lhs; rw [← List.take_append_drop i rs, List.drop_eq_getElem_cons hlt, hv]
    rw [e, List.find?_append, List.find?_eq_none.2 (fun z hz => by have := hb z hz; unfold mt at this; simp [this])]
    unfold mt at hy
    simp [hy]
  rw [h]
  rfl
theorem lineOf_none {rs : List Ln} {n : Int} (hb : ∀ z ∈ rs, mt n z = false) : lineOf rs n = noLn := by
  unfold lineOf
  rw [List.find?_eq_none.2 (fun z hz => by have := hb z hz; unfold mt at this; simp [this])]
  rfl
theorem bel_put {w W : World} {l : Nat} (h : Bel w W) (hl : w.heap.size ≤ l) (o : Obj) : Bel w (W.putObj l o) :=
  ⟨h.os, h.tape, h.output, by rw [World.putObj_size]; exact h.size, fun j hj => (World.putObj_heap_other (by omega)).trans (h.block j hj)⟩
theorem boxed_put {W : World} {B t l : Nat} {v : Value} (h : Boxed W B t v) (hl : B ≠ l) (o : Obj) : Boxed (W.putObj l o) B t v := (World.putObj_heap_other hl).trans h
def LInv (rs : List Ln) (n : Int) (B : Nat) (w : World) (pre : List (List UInt8)) (W : World) : Prop :=
  (∀ z ∈ rs.take pre.length, mt n z = false) ∧ Boxed W B 3 (.int .i64 n) ∧ Boxed W (B + 1) 118 (.string ⟨#[]⟩) ∧ Bel w W
def LFnd (rs : List Ln) (n : Int) (B : Nat) (w : World) (W : World) : Prop :=
  Boxed W (B + 1) 118 (.string ⟨(lineOf rs n).l.toArray⟩) ∧ Bel w W
theorem LInv.tch {rs : List Ln} {n : Int} {B b0 b1 E : Nat} {w W W' : World} {pre : List (List UInt8)} (h : LInv rs n B w pre W) (hc : Tch b0 b1 E W W') (h1 : B + 2 ≤ b0) (h2 : B + 2 ≤ E) (h3 : w.heap.size ≤ B) : LInv rs n B w pre W' :=
  ⟨h.1, hc.boxed h.2.1 (by omega) (by omega), hc.boxed h.2.2.1 (by omega) (by omega), Below.trans h.2.2.2 (hc.to_below (by omega) (by omega))⟩
theorem LFnd.tch {rs : List Ln} {n : Int} {B b0 b1 E : Nat} {w W W' : World} (h : LFnd rs n B w W) (hc : Tch b0 b1 E W W') (h1 : B + 2 ≤ b0) (h2 : B + 2 ≤ E) (h3 : w.heap.size ≤ B) : LFnd rs n B w W' :=
  ⟨hc.boxed h.1 (by omega) (by omega), Below.trans h.2 (hc.to_below (by omega) (by omega))⟩

set_option maxRecDepth 100000 in
set_option maxHeartbeats 2000000 in
theorem line_is (S : List UInt8) (tb : List (Int × Int)) (rs : List Ln) (hG : Good ⟨S.toArray⟩ tb rs) (hsz : S.length < 4000) (n : Int) (hn63 : n ≤ 9223372036854775807) (w : World) (hT : Tz w) :
    Calls Tryz.prog 93 #[.string ⟨S.toArray⟩, .int .i64 n] w fun e w' => e = .returned (.string ⟨(lineOf rs n).l.toArray⟩) ∧ Bel w w' := by
  have HG := Lib.hid hG
  have HT := Lib.hid hT
  have hspl : splB 10 S (rs.map (·.l)) = true := hG.spl
  clear hG hT
  refine (callsIn_wide (n := 6)).1 ?_
  refine callsIn_of_wp_marks Tryz.func93 rfl trivial ?_ rfl
  simp only [Tryz.ntmps93, List.size_toArray, List.length_cons, List.length_nil, Nat.reduceAdd, Nat.reduceSub, Array.replicate_succ, Array.replicate_zero, List.push_toArray, List.append_toArray, List.nil_append, List.cons_append]
  gi_wp2_with fail
  refine ⟨trivial, ?_⟩
  gi_at_call 120
  refine (callsIn_wide.2 (splitSeq_make S 10 _)).mono ?_
  rintro e W ⟨rfl, hz, hB, s0, s1, s2⟩
  have b1 : Boxed ((w.alloc (.cells #[.int .i64 n] 3)).alloc (.cells #[.string ⟨#[]⟩] 118)) w.heap.size 3 (.int .i64 n) := (Boxed.new w 3 _).alloc _
  have b2 : Boxed ((w.alloc (.cells #[.int .i64 n] 3)).alloc (.cells #[.string ⟨#[]⟩] 118)) (w.heap.size + 1) 118 (.string ⟨#[]⟩) := by
    have h := Boxed.new (w.alloc (.cells #[.int .i64 n] 3)) 118 (.string ⟨#[]⟩)
    rwa [World.size_alloc] at h
  have hB0 : Bel w ((w.alloc (.cells #[.int .i64 n] 3)).alloc (.cells #[.string ⟨#[]⟩] 118)) := ((Bel.refl w).alloc _).alloc _
  have hz0 : ((w.alloc (.cells #[.int .i64 n] 3)).alloc (.cells #[.string ⟨#[]⟩] 118)).heap.size = w.heap.size + 2 := by simp
  generalize ((w.alloc (.cells #[.int .i64 n] 3)).alloc (.cells #[.string ⟨#[]⟩] 118)) = W0 at hz hB s0 s1 s2 b1 b2 hB0 hz0 ⊢
  rw [hz0] at hz s0 s1 s2 ⊢
  have hseq := split_in 10 S _ hspl hsz (w.heap.size + 2) W Tz (by omega) s0 s1 s2
  have HI0 := Lib.hid (⟨by simp, boxed_bel b1 hB, boxed_bel b2 hB, hB0.trans hB⟩ : LInv rs n w.heap.size w [] W)
  have HZ := Lib.hid hz
  clear b1 b2 hB0 hz0 hB s0 s1 s2 hz
  gi_wp2_with fail
  refine range_top (fun x : List UInt8 => #[.string ⟨x.toArray⟩]) (rs.map (·.l)) (w.heap.size + 2) (w.heap.size + 5) (by decide) (by have := HZ.out; omega) rfl (enters_of Tryz.func150 (by kernel_rfl) rfl) (fun _ => rfl) hseq
    (LInv rs n w.heap.size w) (LFnd rs n w.heap.size w) (fun pre W h => HT.out.bel h.2.2.2)
    (fun pre W W' h hc => h.tch hc (by omega) (by have := HZ.out; omega) (Nat.le_refl _)) (fun W W' h hc => h.tch hc (by omega) (by have := HZ.out; omega) (Nat.le_refl _)) HI0.out
    (fun x => { tmps := #[.string ⟨S.toArray⟩, .int .i64 n, undef, .pointer (some ⟨w.heap.size, 0, none⟩), .pointer (some ⟨w.heap.size + 1, 0, none⟩), .string ⟨x.toArray⟩, undef, undef, undef, .string ⟨S.toArray⟩,
      .func (.func 150) #[] #[.pointer (some ⟨w.heap.size + 2 + 1, 0, none⟩), .pointer (some ⟨w.heap.size + 2, 0, none⟩), .pointer (some ⟨w.heap.size + 2 + 2, 0, none⟩)], .string ⟨x.toArray⟩,
      undef, undef, undef, undef, undef, undef, undef, undef, undef, undef, undef, undef, undef, undef, undef, undef, undef, undef, undef, undef, undef], defers := [] }) ?assign ?body ?done ?stop
  case assign =>
    intro l x W K hK
    gi_wp2
    exact hK
  case body =>
    rintro l pre x W1 hl - ⟨hp, c1, c2, hb⟩ ⟨rest, hx⟩
    obtain ⟨y, hy, rfl⟩ : ∃ y, rs[pre.length]? = some y ∧ y.l = x := by
      have h := congrArg (fun t => t[pre.length]?) hx
      simp only [List.getElem?_map, List.getElem?_append_right (Nat.le_refl _), Nat.sub_self, List.getElem?_cons_zero, Option.map_eq_some_iff] at h
      exact h
    have hyo := HG.out.ok y (List.mem_of_getElem? hy)
    have HPs := Lib.hid (fun w h => parts_is y hyo w h)
    have hcw : Lib.countByte (⟨y.ws.toArray⟩ : ByteArray).data.toList 32 = y.k := (okLn_all hyo).2.2.2.2.2.2.2.2.1
    have hst := (okLn_all hyo).2.2.2.2.2.2.2.2.2
    have hrm : y.ok = true → y.st + y.k < 256 := fun e => (okLn_room hyo e).2
    have hnext : mt n y = false → ∀ z ∈ rs.take (pre ++ [y.l]).length, mt n z = false := fun e z hz => by
      rw [show (pre ++ [y.l]).length = pre.length + 1 by simp, List.take_add_one, hy] at hz
      rcases List.mem_append.1 hz with hz | hz
      · exact hp z hz
      · simp at hz
        rw [hz]
        exact e
    have HN := Lib.hid hnext
    have HF := Lib.hid (fun e => lineOf_at hy hp e)
    have HC1 := Lib.hid c1
    have HC2 := Lib.hid c2
    have HB := Lib.hid hb
    have HL := Lib.hid hl
    clear hnext hp c1 c2 hb hx hy hyo hl
    gi_wp2_with fail
    refine ⟨trivial, ?_⟩
    gi_at_call 121
    refine (CallsIn.inRound l (callsIn_wide.2 (HPs.out _ (HT.out.bel HB.out)))).mono ?_
    rintro e W2 ⟨rfl, hb2⟩
    have D1 := boxed_bel HC1.out hb2
    have D2 := boxed_bel HC2.out hb2
    have k1 := D1.cell
    have k2 := D2.cell
    have f2 := D2.frozen
    have HD := Lib.hid (And.intro D1 D2)
    have HBB := Lib.hid (HB.out.trans hb2)
    have HK := Lib.hid (Kep.of_bel (b0 := w.heap.size + 2) (b1 := w.heap.size + 5) (E := W.heap.size) hb2)
    clear HC1 HC2 HB hb2 D1 D2 HPs
    obtain ⟨ol, ot, oh, ow, ook, ost, okk, ofs⟩ := y
    dsimp only at hcw hst hrm HN HF HD ⊢
    cases ook with
    | false =>
      have hm0 : mt n ⟨ol, ot, oh, ow, false, ost, okk, ofs⟩ = false := rfl
      gi_wp2_with fail
      refine quiet_round (by kernel_rfl) (by kernel_rfl) (by kernel_rfl) ?_
      repeat
        refine wpQuietIn_step (fun _ _ _ _ => trivial) (fun K hK => ?_)
        go_simp
        first
          | (refine hK _ ?_; clear hK K)
          | (apply Exists.intro; refine ⟨fun _ => ?_, hK _ ?_⟩; fail; clear hK K)
      refine wpQuietIn_nil ?_
      rintro _ ⟨nq, rfl⟩
      gi_wp2_with fail
      exact ⟨HK.out.trans (Kep.of_bel ((Bel.refl _).drewN _)), HN.out hm0, HD.out.1, HD.out.2, HBB.out.drewN _⟩
    | true =>
      have hr2 := hrm rfl
      clear hrm
      by_cases h1 : ost ≤ n
      · have q1 : decide (ost ≤ n) = true := by simpa using h1
        have q2 : IntKind.i64.wrap (n - ost) = n - ost := by rw [IntKind.wrap_i64]; omega
        have HCt := Lib.hid (fun w => strings_Count_one ⟨ow.toArray⟩ 32 w)
        rw [hcw] at HCt
        by_cases h2 : n - ost ≤ okk
        · have hm1 : mt n ⟨ol, ot, oh, ow, true, ost, okk, ofs⟩ = true := by simp [mt, h1, h2]
          have q3 : decide (n - ost ≤ (okk : Int)) = true := by simpa using h2
          have HE := Lib.hid (HF.out hm1)
          clear HF HN h1 h2 hr2 hcw hm1
          gi_wp2_with fail
          refine quiet_round (by kernel_rfl) (by kernel_rfl) (by kernel_rfl) ?_
          repeat
            refine wpQuietIn_step (fun _ _ _ _ => trivial) (fun K hK => ?_)
            go_simp
            first
              | (refine hK _ ?_; clear hK K)
              | (apply Exists.intro; refine ⟨fun _ => ?_, hK _ ?_⟩; (gi_at_call 122; exact CallsIn.quiet_of_same (callsIn_wide.2 (HCt.out _))); clear hK K)
          refine wpQuietIn_nil ?_
          rintro _ ⟨nq, rfl⟩
          gi_wp2_with fail
          have eq : w.heap.size + 2 ≤ W.heap.size := by have := HZ.out; omega
          have d2 : Boxed (W2.drewN nq) (w.heap.size + 1) 118 (.string ⟨#[]⟩) := boxed_bel HD.out.2 ((Bel.refl _).drewN _)
          refine ⟨HK.out.trans ((Kep.of_bel ((Bel.refl _).drewN nq)).trans (Kep.cell _ _ _ ?_ ?_)), ?_, Below.setCell (HBB.out.drewN nq) (p := ⟨w.heap.size + 1, 0, none⟩) (by simp) _⟩
          · show w.heap.size + 1 < W.heap.size
            omega
          · show ¬ (w.heap.size + 2 ≤ w.heap.size + 1 ∧ w.heap.size + 1 < w.heap.size + 5)
            omega
          · rw [HE.out]
            exact d2.set _
        · have hm1 : mt n ⟨ol, ot, oh, ow, true, ost, okk, ofs⟩ = false := by simp [mt, h1, h2]
          have q3 : decide (n - ost ≤ (okk : Int)) = false := by simpa using h2
          have HE := Lib.hid (HN.out hm1)
          clear HF HN h1 h2 hr2 hcw hm1
          gi_wp2_with fail
          refine quiet_round (by kernel_rfl) (by kernel_rfl) (by kernel_rfl) ?_
          repeat
            refine wpQuietIn_step (fun _ _ _ _ => trivial) (fun K hK => ?_)
            go_simp
            first
              | (refine hK _ ?_; clear hK K)
              | (apply Exists.intro; refine ⟨fun _ => ?_, hK _ ?_⟩; (gi_at_call 122; exact CallsIn.quiet_of_same (callsIn_wide.2 (HCt.out _))); clear hK K)
          refine wpQuietIn_nil ?_
          rintro _ ⟨nq, rfl⟩
          gi_wp2_with fail
          exact ⟨HK.out.trans (Kep.of_bel ((Bel.refl _).drewN _)), HE.out, HD.out.1, HD.out.2, HBB.out.drewN _⟩
      · have hm1 : mt n ⟨ol, ot, oh, ow, true, ost, okk, ofs⟩ = false := by simp [mt, h1]
        have q1 : decide (ost ≤ n) = false := by simpa using h1
        have HE := Lib.hid (HN.out hm1)
        clear HF HN h1 hr2 hcw hm1
        gi_wp2_with fail
        refine quiet_round (by kernel_rfl) (by kernel_rfl) (by kernel_rfl) ?_
        repeat
          refine wpQuietIn_step (fun _ _ _ _ => trivial) (fun K hK => ?_)
          go_simp
          first
            | (refine hK _ ?_; clear hK K)
            | (apply Exists.intro; refine ⟨fun _ => ?_, hK _ ?_⟩; fail; clear hK K)
        refine wpQuietIn_nil ?_
        rintro _ ⟨nq, rfl⟩
        gi_wp2_with fail
        exact ⟨HK.out.trans (Kep.of_bel ((Bel.refl _).drewN _)), HE.out, HD.out.1, HD.out.2, HBB.out.drewN _⟩
  case done =>
    rintro W1 ⟨hp, c1, c2, hb⟩ hK
    have hln : lineOf rs n = noLn := lineOf_none fun z hz => hp z (by rw [List.length_map, List.take_length]; exact hz)
    have k2 := c2.cell
    have f2 := c2.frozen
    have eq : w.heap.size + 2 ≤ W.heap.size := by have := HZ.out; omega
    gi_wp2
    have hK' := (KeepsOthers.setCell W1 ⟨w.heap.size + 1, 0, none⟩ (.string ⟨#[]⟩)).same _ _ hK rfl
    have d2 := boxed_put (c2.set (.string ⟨#[]⟩)) (l := W.heap.size) (by omega) (.deferred none)
    have e2 := d2.cell
    refine ⟨by simp, .inl ⟨_, _, rfl, run_takeDeferred hK', ?_⟩⟩
    refine ⟨.string ⟨#[]⟩, ?_, by rw [hln]; rfl, bel_put (Below.setCell hb (p := ⟨w.heap.size + 1, 0, none⟩) (by simp) _) (by omega) _⟩
    simp [results, Tryz.f93, go_sem, e2]
  case stop =>
    rintro W1 ⟨c2, hb⟩ hK
    have eq : w.heap.size + 2 ≤ W.heap.size := by have := HZ.out; omega
    have d2 := boxed_put c2 (l := W.heap.size) (by omega) (.deferred none)
    have e2 := d2.cell
    gi_wp2
    refine ⟨by simp, .inl ⟨_, _, rfl, run_takeDeferred hK, ?_⟩⟩
    refine ⟨.string ⟨(lineOf rs n).l.toArray⟩, ?_, rfl, bel_put hb (by omega) _⟩
    simp [results, Tryz.f93, go_sem, e2]
end Go.Proofs.YtipigfgnpfhdbaaGreatDoor.U
namespace Go.Proofs.YtipigfgnpfhdbaaGreatDoor.U
open Go.RowKit Go.Shelf
set_option linter.unusedVariables false
attribute [local go_sem] Oper.semAt_some

theorem outW_snoc (n : Int) : ∀ (a : List (List UInt8)) (x : List UInt8), outW n (a ++ [x]) = outW n a ++ (if x = [45] then [] else [(n + a.length, chr x)])
  | [], x => by simp [outW]
  | y :: a, x => by
    simp only [List.cons_append, outW, outW_snoc (n + 1) a x, List.append_assoc, List.length_cons, Int.natCast_add, Int.natCast_one]
    rw [show n + 1 + (a.length : Int) = n + ((a.length : Int) + 1) by omega]
theorem outW_append (n : Int) : ∀ (a b : List (List UInt8)), outW n (a ++ b) = outW n a ++ outW (n + a.length) b
  | [], b => by simp [outW]
  | x :: a, b => by
    simp only [List.cons_append, outW, List.append_assoc, outW_append (n + 1) a b, List.length_cons, Int.natCast_add, Int.natCast_one]
    rw [show n + 1 + (a.length : Int) = n + ((a.length : Int) + 1) by omega]
def enc2 (x : Int × Int) : Array Value := #[.int .i64 x.1, .int .i32 x.2]
/-- Between two lines. -/
def NInv (x : Ln) (l0 E0 B : Nat) (J : List (Int × Int) → World → Prop) (pre : List (List UInt8)) (W : World) : Prop :=
  ((pre = [] ∧ J [] W) ∨ (pre = [x.l] ∧ J (outW x.st x.fs) W)) ∧ Boxed W B 122 (.func (.yield l0) #[] #[])
def NFnd (Jx : List (Int × Int) → World → Prop) (W : World) : Prop := ∃ pre, Jx pre W
/-- Between two words. -/
def WInv (x : Ln) (l0 B nb b0 b1 E : Nat) (W2 : World) (J : List (Int × Int) → World → Prop) (pre : List (List UInt8)) (W : World) : Prop :=
  J (outW x.st pre) W ∧ Boxed W nb 3 (.int .i64 (x.st + pre.length)) ∧ Boxed W B 122 (.func (.yield l0) #[] #[]) ∧ Kep b0 b1 E W2 W
theorem Kep.tch {b0 b1 E c0 c1 F : Nat} {A W W' : World} (h : Kep b0 b1 E A W) (hc : Tch c0 c1 F W W') (h0 : A.heap.size ≤ c0) (hF : A.heap.size ≤ F) : Kep b0 b1 E A W' :=
  ⟨Nat.le_trans h.size hc.size, fun j hj hk => (hc.block j (by omega) (by omega)).trans (h.block j hj hk)⟩
theorem below_put {E0 : Nat} (W : World) (l : Nat) (o : Obj) (h : E0 ≤ l) : Below E0 W (W.putObj l o) := (Tch.put (b0 := E0) (b1 := E0) (E := E0) W l o (.inl h)).to_below (Nat.le_refl _) (Nat.le_refl _)
def WFnd (b0 b1 E : Nat) (W2 : World) (Jx : List (Int × Int) → World → Prop) (W : World) : Prop := (∃ pre, Jx pre W) ∧ Kep b0 b1 E W2 W

/-- What a round answers, as one word. -/
def YPost (E0 : Nat) (A B : World → Prop) (W : World) (e : Ending) (W' : World) : Prop := ∃ b : Bool, e = .returned (.bool b) ∧ (b = true → A W') ∧ (b = false → B W') ∧ Kep 0 0 E0 W W'
theorem YPost.of {E0 : Nat} {A B : World → Prop} {W : World} (e : Ending) (W' : World) (h : ((e = .returned (.bool true) ∧ A W') ∨ (e = .returned (.bool false) ∧ B W')) ∧ Kep 0 0 E0 W W') : YPost E0 A B W e W' := by
  obtain ⟨(⟨rfl, h⟩ | ⟨rfl, h⟩), hk⟩ := h
  · exact ⟨true, rfl, fun _ => h, (fun e => by cases e), hk⟩
  · exact ⟨false, rfl, (fun e => by cases e), fun _ => h, hk⟩
theorem bb_two {A B : Prop} {bb : Bool} (h1 : bb = true → A) (h2 : bb = false → B) : (bb = false ∧ Hid B) ∨ (bb = true ∧ Hid A) := by
  cases bb with
  | false => exact .inl ⟨rfl, h2 rfl⟩
  | true => exact .inr ⟨rfl, h1 rfl⟩
theorem w_end {x : Ln} {l0 B nb b0 b1 E E0 F : Nat} {W2 W Wa : World} {J : List (Int × Int) → World → Prop} {pre : List (List UInt8)} {y : List UInt8} {v : Int} (hv : v = x.st + pre.length)
    (hJc : ∀ pre W W', J pre W → Below E0 W W' → J pre W') (hJ : J (outW x.st (pre ++ [y])) Wa) (n : Boxed Wa nb 3 (.int .i64 v)) (c : Boxed Wa B 122 (.func (.yield l0) #[] #[])) (hk : Kep b0 b1 E W2 Wa) (hw : Kep (nb + 1) (nb + 2) F W Wa)
    (h2 : W2.heap.size ≤ nb) (hF : nb < F) (hE : E0 ≤ nb) (hB : B ≠ nb) :
    Kep (nb + 1) (nb + 2) F W (Wa.setCell ⟨nb, 0, none⟩ (.int .i64 (v + 1))) ∧ WInv x l0 B nb b0 b1 E W2 J (pre ++ [y]) (Wa.setCell ⟨nb, 0, none⟩ (.int .i64 (v + 1))) := by
  have hb : Below E0 Wa (Wa.setCell ⟨nb, 0, none⟩ (.int .i64 (v + 1))) := (Below.refl E0 Wa).setCell (p := ⟨nb, 0, none⟩) hE _
  refine ⟨hw.trans (Kep.cell _ _ _ hF (by show ¬ (nb + 1 ≤ nb ∧ nb < nb + 2); omega)), hJc _ _ _ hJ hb, ?_, c.other hB _, hk.tch (c0 := nb) (c1 := nb + 1) (F := nb) (Tch.cell _ _ _ (.inl (Nat.le_refl _))) h2 h2⟩
  have h := n.set (.int .i64 (v + 1))
  have e : x.st + ((pre ++ [y]).length : Int) = v + 1 := by simp; omega
  rw [e]
  exact h

set_option maxRecDepth 100000 in
set_option maxHeartbeats 8000000 in
theorem numbers_in (x : Ln) (hx : okLn x = true) (Wz : World) : Seq Tryz.prog enc2 (outW x.st x.fs) 0 0 94 #[.string ⟨x.l.toArray⟩] #[] Tz Wz := by
  intro l0 E0 J Jx hZ hJ hJx hY W hl hlE hE hW h0
  obtain ⟨h1, h2, h3, h4, h5, h6, h7, h8, h9, h10, h11⟩ := okLn_all hx
  have HZ := Lib.hid hZ
  have HJ := Lib.hid (fun pre W W' (h : J pre W) (hb : Below E0 W W') => hJ pre W W' h (Tch.below hb))
  have HX := Lib.hid (fun pre W W' (h : Jx pre W) (hb : Below E0 W W') => hJx pre W W' h (Tch.below hb))
  have HY := Lib.hid hY
  have HE := Lib.hid hE
  have HL0 := Lib.hid hlE
  have H0 := Lib.hid h0
  have HP := Lib.hid (fun w h => parts_is x hx w h)
  have HW := Lib.hid h7
  clear hZ hJ hJx hY hE hlE h0 hW hl h2 h3 h7 h9 hx
  refine (callsIn_wide (n := 10)).1 ?_
  refine callsIn_of_wp_marks Tryz.func94 rfl trivial ?_ rfl
  simp only [Tryz.ntmps94, List.size_toArray, List.length_cons, List.length_nil, Nat.reduceAdd, Nat.reduceSub, Array.replicate_succ, Array.replicate_zero, List.push_toArray, List.append_toArray, List.nil_append, List.cons_append]
  gi_wp2_with fail
  refine ⟨trivial, ?_⟩
  gi_at_call 120
  refine (callsIn_wide.2 (splitSeq_make x.l 10 _)).mono ?_
  rintro e W1 ⟨rfl, hz, hB, s0, s1, s2⟩
  have b1 : Boxed (W.alloc (.cells #[.func (.yield l0) #[] #[]] 122)) W.heap.size 122 (.func (.yield l0) #[] #[]) := Boxed.new W _ _
  have hB0 : Bel W (W.alloc (.cells #[.func (.yield l0) #[] #[]] 122)) := (Bel.refl W).alloc _
  have hz0 : (W.alloc (.cells #[.func (.yield l0) #[] #[]] 122)).heap.size = W.heap.size + 1 := by simp
  generalize (W.alloc (.cells #[.func (.yield l0) #[] #[]] 122)) = W0 at hz hB s0 s1 s2 b1 hB0 hz0 ⊢
  rw [hz0] at hz s0 s1 s2 ⊢
  have hseq := split_in 10 x.l _ h5 (by omega) (W.heap.size + 1) W1 Tz (by omega) s0 s1 s2
  have HI0 : Hid (NInv x l0 E0 W.heap.size J [] W1) := Lib.hid ⟨.inl ⟨rfl, HJ.out _ _ _ H0.out (Below.mono (hB0.trans hB) HE.out)⟩, boxed_bel b1 hB⟩
  have HS := Lib.hid hz
  clear b1 hB0 hz0 hB s0 s1 s2 hz H0 h5
  obtain ⟨B, hBW⟩ : ∃ B, B = W.heap.size := ⟨_, rfl⟩
  rw [← hBW] at HE HI0 HS hseq ⊢
  have HB := Lib.hid hBW
  clear hBW
  gi_wp2_with fail
  refine range_top (fun x : List UInt8 => #[.string ⟨x.toArray⟩]) [x.l] (B + 1) (B + 4) (by decide) (by have := HS.out; omega) rfl (enters_of Tryz.func150 (by kernel_rfl) rfl) (fun _ => rfl) hseq
    (NInv x l0 E0 B J) (NFnd Jx) (fun pre W h => by rcases h.1 with ⟨_, h⟩ | ⟨_, h⟩ <;> exact HZ.out _ _ h)
    (fun pre W W' h hc => ⟨by
        have hb : Below E0 W W' := hc.to_below (by have := HE.out; omega) (by have := HE.out; have := HS.out; omega)
        rcases h.1 with ⟨e, h⟩ | ⟨e, h⟩
        · exact .inl ⟨e, HJ.out _ _ _ h hb⟩
        · exact .inr ⟨e, HJ.out _ _ _ h hb⟩, hc.boxed h.2 (by have := HS.out; omega) (by omega)⟩)
    (fun W W' h hc => by
        obtain ⟨pre, h⟩ := h
        exact ⟨pre, HX.out _ _ _ h (hc.to_below (by have := HE.out; omega) (by have := HE.out; have := HS.out; omega))⟩) HI0.out
    (fun y => { tmps := #[.string ⟨x.l.toArray⟩, .func (.yield l0) #[] #[], undef, .pointer (some ⟨B, 0, none⟩), .string ⟨y.toArray⟩, undef, undef, undef, undef, .string ⟨x.l.toArray⟩,
      .func (.func 150) #[] #[.pointer (some ⟨B + 1 + 1, 0, none⟩), .pointer (some ⟨B + 1, 0, none⟩), .pointer (some ⟨B + 1 + 2, 0, none⟩)], .string ⟨y.toArray⟩,
      undef, undef, undef, undef, undef, undef, undef, undef, undef, undef, undef, undef, undef, undef, undef, undef, undef, undef, undef, undef, undef], defers := [] }) ?assign ?body ?done ?stop
  case assign =>
    intro l y W K hK
    gi_wp2
    exact hK
  case body =>
    rintro l1 pre y W2 hl1 ⟨r1, hr1⟩ ⟨hp, c1⟩ ⟨rest, hx⟩
    obtain ⟨rfl, rfl⟩ : pre = [] ∧ y = x.l := by
      rcases pre with _ | ⟨a, pre⟩
      · simp at hx
        exact ⟨rfl, hx.1.symm⟩
      · simp at hx
    have hJ2 : J [] W2 := by
      rcases hp with ⟨_, h⟩ | ⟨h, _⟩
      · exact h
      · simp at h
    clear hp hx
    have hW2 : W1.heap.size < W2.heap.size := by
      have := (Array.getElem?_eq_some_iff.1 hr1).1
      omega
    have HW2 := Lib.hid hW2
    have HJ2 := Lib.hid hJ2
    have HC1 := Lib.hid c1
    have HL1 := Lib.hid hl1
    have HR1 := Lib.hid hr1
    clear hJ2 c1 hl1 hr1 hW2
    gi_wp2_with fail
    refine ⟨trivial, ?_⟩
    gi_at_call 121
    refine (CallsIn.inRound l1 (callsIn_wide.2 (HP.out _ (HZ.out _ _ HJ2.out)))).mono ?_
    rintro e W3 ⟨rfl, hb3⟩
    gi_wp2_with fail
    refine ⟨trivial, ?_⟩
    gi_at_call 123
    refine (CallsIn.inRound l1 (callsIn_wide.2 (fieldsSeq_make x.ws _))).mono ?_
    rintro e W5 ⟨rfl, hz5, hb5, f0⟩
    have n4 : Boxed (W3.alloc (.cells #[.int .i64 x.st] 3)) W3.heap.size 3 (.int .i64 x.st) := Boxed.new W3 _ _
    have hz4 : (W3.alloc (.cells #[.int .i64 x.st] 3)).heap.size = W3.heap.size + 1 := by simp
    have hb4 : Bel W3 (W3.alloc (.cells #[.int .i64 x.st] 3)) := (Bel.refl W3).alloc _
    generalize (W3.alloc (.cells #[.int .i64 x.st] 3)) = W4 at n4 hz4 hb4 hz5 hb5 f0 ⊢
    rw [hz4] at hz5 f0 ⊢
    have hbb : Bel W2 W5 := (Bel.trans hb3 hb4).trans hb5
    obtain ⟨nb, hnb⟩ : ∃ nb, nb = W3.heap.size := ⟨_, rfl⟩
    have h23 : W2.heap.size ≤ nb := by rw [hnb]; exact Below.size hb3
    rw [← hnb] at n4 hz5 f0 ⊢
    have hr5 : W5.heap[l1]? = some (.loop r1) := (Below.block hbb l1 (Array.getElem?_eq_some_iff.1 HR1.out).1).trans HR1.out
    have hseq2 := fields_in x.ws x.fs h6 (by omega) (nb + 1) W5 (by omega) f0
    have hW2 := HW2.out
    have hS1 := HS.out
    have hE0 := HE.out
    have HK0 : Hid (WInv x l0 B nb (B + 1) (B + 4) W1.heap.size W2 J [] W5) := Lib.hid ⟨HJ.out _ _ _ HJ2.out (Below.mono hbb (by omega)), by simpa using boxed_bel n4 hb5, boxed_bel HC1.out hbb, Kep.of_bel hbb⟩
    have HZ5 := Lib.hid hz5
    have HN2 := Lib.hid h23
    clear hb3 hb4 hb5 hbb n4 hz4 f0 hnb h6 HJ2 HC1 h23 hz5 hW2 hS1 hE0
    gi_wp2_with fail
    refine range_in (fun x : List UInt8 => #[.string ⟨x.toArray⟩]) x.fs (nb + 1) (nb + 2) hr5 (by decide) (by have := HZ5.out; omega) rfl (enters_of Tryz.func137 (by kernel_rfl) rfl) (fun _ => rfl) hseq2
      (WInv x l0 B nb (B + 1) (B + 4) W1.heap.size W2 J) (WFnd (B + 1) (B + 4) W1.heap.size W2 Jx) (fun pre W h => HZ.out _ _ h.1)
      (fun pre W W' h hc => by
        have q1 := HZ5.out
        have q2 := HN2.out
        have q3 := HW2.out
        have q4 := HS.out
        have q5 := HE.out
        exact ⟨HJ.out _ _ _ h.1 (hc.to_below (by omega) (by omega)), hc.boxed h.2.1 (by omega) (by omega), hc.boxed h.2.2.1 (by omega) (by omega), h.2.2.2.tch hc (by omega) (by omega)⟩)
      (fun W W' h hc => by
        have q1 := HZ5.out
        have q2 := HN2.out
        have q3 := HW2.out
        have q4 := HS.out
        have q5 := HE.out
        obtain ⟨⟨pre, h1⟩, h2⟩ := h
        exact ⟨⟨pre, HX.out _ _ _ h1 (hc.to_below (by omega) (by omega))⟩, h2.tch hc (by omega) (by omega)⟩) HK0.out
      (fun y => { tmps := #[.string ⟨x.l.toArray⟩, .func (.yield l0) #[] #[], undef, .pointer (some ⟨B, 0, none⟩), .string ⟨x.l.toArray⟩, .pointer (some ⟨nb, 0, none⟩), .string ⟨x.ws.toArray⟩, .bool x.ok, .string ⟨y.toArray⟩, .string ⟨x.l.toArray⟩,
        .func (.func 150) #[] #[.pointer (some ⟨B + 1 + 1, 0, none⟩), .pointer (some ⟨B + 1, 0, none⟩), .pointer (some ⟨B + 1 + 2, 0, none⟩)], .string ⟨x.l.toArray⟩,
        .tuple #[.int .i64 x.st, .string ⟨x.ws.toArray⟩, .bool x.ok], .string ⟨x.l.toArray⟩, .tuple #[.int .i64 x.st, .string ⟨x.ws.toArray⟩, .bool x.ok], .int .i64 x.st, .string ⟨x.ws.toArray⟩, .bool x.ok, .string ⟨x.ws.toArray⟩,
        .func (.func 137) #[] #[.pointer (some ⟨nb + 1, 0, none⟩)], .string ⟨y.toArray⟩, undef, undef, undef, undef, undef, undef, undef, undef, undef, undef, undef, undef], defers := [] }) ?assign2 ?body2 ?done2 ?stop2
    case assign2 =>
      intro l y W K hK
      gi_wp2
      exact hK
    case body2 =>
      rintro l2 pre y W6 hl2 - ⟨hJ6, n6, c6, hk6⟩ ⟨rest, hx⟩
      have hlen : pre.length < 100 := by
        have h := congrArg List.length hx
        simp at h
        omega
      obtain ⟨v, hv⟩ : ∃ v : Int, v = x.st + pre.length := ⟨_, rfl⟩
      have hv1 : wrap64 (v + 1) = v + 1 := by unfold wrap64; omega
      have hyW := HW.out y (by rw [hx]; simp)
      rw [← hv] at n6
      have k6 := n6.cell
      have f6 := n6.frozen
      have k7 := c6.cell
      have HJ6 := Lib.hid hJ6
      have HN6 := Lib.hid n6
      have HC6 := Lib.hid c6
      have HK6 := Lib.hid hk6
      have HV := Lib.hid hv
      clear hJ6 n6 c6 hk6 hl2 hlen
      by_cases hy : y = [45]
      · have hb1 : ((⟨y.toArray⟩ : ByteArray).toList == [45]) = true := by
          rw [ByteArray.toList_eq]
          simpa using hy
        have HE1 : Hid (outW x.st (pre ++ [y]) = outW x.st pre) := Lib.hid (by rw [outW_snoc, if_pos hy, List.append_nil])
        clear hx hv hyW
        gi_wp2_with fail
        refine quiet_round (by kernel_rfl) (by kernel_rfl) (by kernel_rfl) ?_
        repeat
          refine wpQuietIn_step (fun _ _ _ _ => trivial) (fun K hK => ?_)
          go_simp
          refine hK _ ?_
          clear hK K
        refine wpQuietIn_nil ?_
        rintro _ ⟨nq, rfl⟩
        gi_wp2_with fail
        have q1 := HZ5.out
        have q2 := HN2.out
        have q3 := HW2.out
        have q4 := HS.out
        have q5 := HE.out
        have hd : Bel W6 (W6.drewN nq) := (Bel.refl _).drewN nq
        exact w_end HV.out HJ.out (by rw [HE1.out]; exact HJ.out _ _ _ HJ6.out (Below.mono hd (by have := HK6.out.size; omega))) (boxed_bel HN6.out hd) (boxed_bel HC6.out hd) (HK6.out.trans (Kep.of_bel hd)) (Kep.of_bel hd) (by omega) (by omega) (by omega) (by omega)
      · have hb1 : ((⟨y.toArray⟩ : ByteArray).toList == [45]) = false := by
          rw [ByteArray.toList_eq]
          simpa using hy
        have hb2 : (y == [45]) = false := by simpa using hy
        have HE1 : Hid (outW x.st (pre ++ [y]) = outW x.st pre ++ [(v, chr y)]) := Lib.hid (by rw [outW_snoc, if_neg hy, hv])
        have HR : Hid (∃ rest', outW x.st x.fs = outW x.st pre ++ (v, chr y) :: rest') := Lib.hid ⟨outW (x.st + (pre.length : Int) + 1) rest, by rw [hx, outW_append, hv]; simp [outW, hy]⟩
        have HCh := Lib.hid (fun w h => char_is y w hyW h)
        have hd : Bel W6 W6.drew := (Bel.refl _).drew
        have HJd : Hid (J (outW x.st pre) W6.drew) := Lib.hid (HJ.out _ _ _ HJ6.out (Below.mono hd (by have := HK6.out.size; have := HW2.out; have := HS.out; have := HE.out; omega)))
        have HWd : Hid (E0 ≤ W6.drew.heap.size) := Lib.hid (by have := HK6.out.size; have := HW2.out; have := HS.out; have := HE.out; show E0 ≤ W6.heap.size; omega)
        have HNd : Hid (Boxed W6.drew nb 3 (.int .i64 v)) := Lib.hid (boxed_bel HN6.out hd)
        have HCd : Hid (Boxed W6.drew B 122 (.func (.yield l0) #[] #[])) := Lib.hid (boxed_bel HC6.out hd)
        have HKd := Lib.hid (HK6.out.trans (Kep.of_bel hd))
        have HKw : Hid (Kep (nb + 1) (nb + 2) W5.heap.size W6 W6.drew) := Lib.hid (Kep.of_bel hd)
        clear hx hv hyW hd
        generalize hcy : chr y = cy at HE1 HR HCh
        clear hcy
        gi_wp2_with fail
        gi_region_with (first | (refine ⟨trivial, ?_⟩; gi_at_call 124; refine (CallsIn.inRound l2 (callsIn_wide.2 (HCh.out _ (HZ.out _ _ HJd.out)))).mono ?_; rintro e w5 ⟨rfl, hb5⟩; have HJ5 := Lib.hid (HJ.out _ _ _ HJd.out (Below.mono hb5 HWd.out)); have N5 := boxed_bel HNd.out hb5; have C5 := boxed_bel HCd.out hb5; have k8 := N5.cell; have k9 := C5.cell; have HK5 := Lib.hid (HKd.out.trans (Kep.of_bel hb5)); have HKw5 := Lib.hid (HKw.out.trans (Kep.of_bel hb5)); have HB5 := Lib.hid (And.intro N5 C5); clear hb5 N5 C5; obtain ⟨fn, tmps, assign, body, hyy, hR⟩ := HY.out _ (v, cy) w5 HJ5.out HR.out; have HRo := Lib.hid hR; clear hR; dsimp only [enc2] at hyy) | (refine ((roundIn_any HRo.out).mono (fun e w7 h => YPost.of e w7 h)).mono ?_; rintro e w7 ⟨bb, rfl, hj7, hx7, hk7⟩; have HJ7 := Lib.hid hj7; have HX7 := Lib.hid hx7; have HK7 := Lib.hid hk7; clear hj7 hx7 hk7))
        all_goals have q1 := HZ5.out
        all_goals have q2 := HN2.out
        all_goals have q3 := HW2.out
        all_goals have q4 := HS.out
        all_goals have q5 := HE.out
        all_goals have N7 := HK7.out.boxed HB5.out.1 (.inr (by omega))
        all_goals have C7 := HK7.out.boxed HB5.out.2 (.inr (by omega))
        all_goals have HN7 := Lib.hid (And.intro N7 C7)
        all_goals have kA := N7.cell
        all_goals have fA := N7.frozen
        all_goals have HKa : Hid (Kep (B + 1) (B + 4) W1.heap.size W2 w7) := Lib.hid (HK5.out.trans (HK7.out.wide (by omega) (by omega)))
        all_goals have HKb : Hid (Kep (nb + 1) (nb + 2) W5.heap.size W6 w7) := Lib.hid (HKw5.out.trans (HK7.out.wide (by omega) (by omega)))
        all_goals clear N7 C7 k6 f6 k7 k8 k9 q1 q2 q3 q4 q5
        all_goals have HJ8 : bb = true → J (outW x.st (pre ++ [y])) w7 := by rw [HE1.out]; exact HJ7.out
        all_goals have hc := bb_two HJ8 HX7.out
        all_goals clear HJ8
        all_goals clear HJ7 HX7
        all_goals rcases hc with ⟨rfl, hH⟩ | ⟨rfl, hH⟩
        all_goals gi_wp2_with fail
        all_goals have q1 := HZ5.out
        all_goals have q2 := HN2.out
        all_goals have q3 := HW2.out
        all_goals have q4 := HS.out
        all_goals have q5 := HE.out
        all_goals first | exact ⟨HKb.out, ⟨_, hH.out⟩, HKa.out⟩ | exact w_end HV.out HJ.out hH.out HN7.out.1 HN7.out.2 HKa.out HKb.out (by omega) (by omega) (by omega) (by omega)
    case done2 =>
      rintro W9 ⟨hJ9, -, c9, hk9⟩
      have HQ := Lib.hid (And.intro hJ9 (And.intro c9 hk9))
      clear hJ9 c9 hk9
      gi_wp2
      exact ⟨HQ.out.2.2, .inr ⟨rfl, HQ.out.1⟩, HQ.out.2.1⟩
    case stop2 =>
      rintro W9 ⟨hX9, hk9⟩
      have HQ := Lib.hid (And.intro hX9 hk9)
      clear hX9 hk9
      gi_wp2
      exact ⟨HQ.out.2, HQ.out.1⟩
  case done =>
    rintro W9 ⟨hp, c1⟩ hK
    have hJ9 : J (outW x.st x.fs) W9 := by
      rcases hp with ⟨h, _⟩ | ⟨_, h⟩
      · simp at h
      · exact h
    have HJ9 := Lib.hid hJ9
    clear hp hJ9
    gi_wp2
    refine ⟨by simp, .inl ⟨_, _, rfl, run_takeDeferred hK, ?_⟩⟩
    exact ⟨_, results_none rfl _ _ _, ⟨⟨_, rfl⟩, .inl (HJ.out _ _ _ HJ9.out (below_put _ _ _ (by have := HE.out; have := HS.out; omega)))⟩⟩
  case stop =>
    rintro W9 ⟨pre, hX⟩ hK
    have HX9 := Lib.hid hX
    clear hX
    gi_wp2
    refine ⟨by simp, .inl ⟨_, _, rfl, run_takeDeferred hK, ?_⟩⟩
    exact ⟨_, results_none rfl _ _ _, ⟨⟨_, rfl⟩, .inr ⟨pre, HX.out _ _ _ HX9.out (below_put _ _ _ (by have := HE.out; have := HS.out; omega))⟩⟩⟩
end Go.Proofs.YtipigfgnpfhdbaaGreatDoor.U
namespace Go.Proofs.YtipigfgnpfhdbaaGreatDoor.U
open Go.RowKit Go.Shelf
set_option linter.unusedVariables false
attribute [local go_sem] Oper.semAt_some

/-- Between two rounds. -/
def Inv (n : Int) (B : Nat) (w : World) (pre : List (Int × Int)) (W : World) : Prop :=
  (∀ p ∈ pre, p.1 ≠ n) ∧ Boxed W B 3 (.int .i64 n) ∧ Boxed W (B + 1) 21 (.int .i32 0) ∧ Boxed W (B + 2) 4 (.bool false) ∧ Bel w W
/-- A round has found it. -/
def Fnd (tb : List (Int × Int)) (n : Int) (B : Nat) (w : World) (W : World) : Prop :=
  ∃ r, look tb n = (r, true) ∧ Boxed W (B + 1) 21 (.int .i32 r) ∧ Boxed W (B + 2) 4 (.bool true) ∧ Bel w W
theorem Inv.tch {n : Int} {B b0 b1 E : Nat} {w W W' : World} {pre : List (Int × Int)} (h : Inv n B w pre W) (hc : Tch b0 b1 E W W') (h1 : b1 ≤ b0) (h2 : B + 3 ≤ E) (h3 : w.heap.size ≤ B) : Inv n B w pre W' :=
  ⟨h.1, hc.boxed h.2.1 (by omega) (by omega), hc.boxed h.2.2.1 (by omega) (by omega), hc.boxed h.2.2.2.1 (by omega) (by omega), Below.trans h.2.2.2.2 ⟨hc.os, hc.tape, hc.output, hc.size, fun j hj => hc.block j (by omega) (by omega)⟩⟩
theorem Fnd.tch {tb : List (Int × Int)} {n : Int} {B b0 b1 E : Nat} {w W W' : World} (h : Fnd tb n B w W) (hc : Tch b0 b1 E W W') (h1 : b1 ≤ b0) (h2 : B + 3 ≤ E) (h3 : w.heap.size ≤ B) : Fnd tb n B w W' := by
  obtain ⟨r, h0, k1, k2, k3⟩ := h
  exact ⟨r, h0, hc.boxed k1 (by omega) (by omega), hc.boxed k2 (by omega) (by omega), Below.trans k3 ⟨hc.os, hc.tape, hc.output, hc.size, fun j hj => hc.block j (by omega) (by omega)⟩⟩

set_option maxRecDepth 100000 in
set_option maxHeartbeats 2000000 in
theorem ansel_is (n : Int) (hn63 : n ≤ 9223372036854775807) (w : World) (hT : Tz w) : Calls Tryz.prog 56 #[.int .i64 n] w fun e w' => e = .returned (.tuple #[.int .i32 (look tabA n).1, .bool (look tabA n).2]) ∧ Bel w w' := by
  have hG : Good ⟨txtA.toArray⟩ tabA recsA := by
    have h := goodA
    rwa [show SA = ⟨txtA.toArray⟩ by kernel_rfl] at h
  have HT := Lib.hid hT
  have HL := Lib.hid (fun w h => line_is txtA tabA recsA hG (of_decide_eq_true (by kernel_rfl)) n hn63 w h)
  have hx := lineOf_ok hG.ok n
  have htl := hG.tells n
  rw [← htl]
  refine (callsIn_wide (n := 6)).1 ?_
  refine callsIn_of_wp_marks Tryz.func56 bodyA trivial ?_ rfl
  rw [show ∀ p, codeA (strAt Tryz.f56) p = codeA (fun _ => ⟨txtA.toArray⟩) p from fun p => by kernel_rfl]
  generalize posAt Tryz.f56 = p
  generalize (⟨txtA.toArray⟩ : ByteArray) = S at HL ⊢
  generalize lineOf recsA n = x at HL hx ⊢
  unfold codeA
  simp only [Tryz.ntmps56, List.size_toArray, List.length_cons, List.length_nil, Nat.reduceAdd, Nat.reduceSub, Array.replicate_succ, Array.replicate_zero, List.push_toArray, List.append_toArray, List.nil_append, List.cons_append]
  clear hG htl hT hn63
  have HX := Lib.hid hx
  clear hx
  gi_wp2_with fail
  have b1 : Boxed (((w.alloc (.cells #[.int .i64 n] 3)).alloc (.cells #[.int .i32 0] 21)).alloc (.cells #[.bool false] 4)) w.heap.size 3 (.int .i64 n) := ((Boxed.new w 3 _).alloc _).alloc _
  have b2 : Boxed (((w.alloc (.cells #[.int .i64 n] 3)).alloc (.cells #[.int .i32 0] 21)).alloc (.cells #[.bool false] 4)) (w.heap.size + 1) 21 (.int .i32 0) := by
    have h := (Boxed.new (w.alloc (.cells #[.int .i64 n] 3)) 21 (.int .i32 0)).alloc (.cells #[.bool false] 4)
    rwa [World.size_alloc] at h
  have b3 : Boxed (((w.alloc (.cells #[.int .i64 n] 3)).alloc (.cells #[.int .i32 0] 21)).alloc (.cells #[.bool false] 4)) (w.heap.size + 2) 4 (.bool false) := by
    have h := Boxed.new ((w.alloc (.cells #[.int .i64 n] 3)).alloc (.cells #[.int .i32 0] 21)) 4 (.bool false)
    rwa [World.size_alloc, World.size_alloc] at h
  have hB : Bel w (((w.alloc (.cells #[.int .i64 n] 3)).alloc (.cells #[.int .i32 0] 21)).alloc (.cells #[.bool false] 4)) := (((Bel.refl w).alloc _).alloc _).alloc _
  have hz : (((w.alloc (.cells #[.int .i64 n] 3)).alloc (.cells #[.int .i32 0] 21)).alloc (.cells #[.bool false] 4)).heap.size = w.heap.size + 3 := by simp
  generalize (((w.alloc (.cells #[.int .i64 n] 3)).alloc (.cells #[.int .i32 0] 21)).alloc (.cells #[.bool false] 4)) = W0 at b1 b2 b3 hB hz ⊢
  refine ⟨trivial, ?_⟩
  gi_at_call 93
  refine (callsIn_wide.2 (HL.out _ (HT.out.bel hB))).mono ?_
  rintro e Wz ⟨rfl, hb1⟩
  have HI0 : Hid (Inv n w.heap.size w [] Wz) := Lib.hid ⟨by simp, boxed_bel b1 hb1, boxed_bel b2 hb1, boxed_bel b3 hb1, hB.trans hb1⟩
  have HZ := Lib.hid (show w.heap.size + 3 ≤ Wz.heap.size by have := Below.size hb1; omega)
  clear b1 b2 b3 hB hz hb1
  gi_wp2_with fail
  have eq2 : w.heap.size + 2 = w.heap.size + 1 + 1 := rfl
  refine range_top enc2 (outW x.st x.fs) 0 0 (by decide) (by omega) rfl (enters_of Tryz.func94 (by kernel_rfl) rfl) (fun _ => rfl) (numbers_in x HX.out Wz)
    (Inv n w.heap.size w) (Fnd (outW x.st x.fs) n w.heap.size w) (fun pre W h => HT.out.bel h.2.2.2.2)
    (fun pre W W' h hc => h.tch hc (Nat.le_refl _) HZ.out (Nat.le_refl _)) (fun W W' h hc => h.tch hc (Nat.le_refl _) HZ.out (Nat.le_refl _)) HI0.out
    (fun y => { tmps := #[.int .i64 n, .pointer (some ⟨w.heap.size, 0, none⟩), .pointer (some ⟨w.heap.size + 1, 0, none⟩), .pointer (some ⟨w.heap.size + 1 + 1, 0, none⟩), .int .i64 y.1, .int .i32 y.2, .int .i64 n, .string ⟨x.l.toArray⟩,
      .func (.func 94) #[.string ⟨x.l.toArray⟩] #[], .int .i64 y.1, .int .i32 y.2, undef, undef, undef, undef], defers := [] }) ?assign ?body ?done ?stop
  case assign =>
    intro l y W K hK
    dsimp only [enc2]
    gi_wp2
    exact hK
  case body =>
    rintro l pre y W hl - ⟨hp, c1, c2, c3, hB⟩ hx
    rw [eq2] at c3
    have k1 := c1.cell
    have k2 := c2.cell
    have k3 := c3.cell
    have f2 := c2.frozen
    have f3 := c3.frozen
    have HC2 := Lib.hid c2
    have HC3 := Lib.hid c3
    have HC1 := Lib.hid c1
    have HB := Lib.hid hB
    have HXx := Lib.hid hx
    have HP := Lib.hid hp
    clear c1 c2 c3 hB hx hp hl
    gi_wp2
    · rename_i he
      have he' : y.1 = n := by simpa using he
      obtain ⟨rest, hr⟩ := HXx.out
      refine ⟨(Kep.cell _ ⟨w.heap.size + 1, 0, none⟩ _ (by show w.heap.size + 1 < Wz.heap.size; have := HZ.out; omega) (by omega)).trans (Kep.cell _ ⟨w.heap.size + 1 + 1, 0, none⟩ _ (by show w.heap.size + 1 + 1 < Wz.heap.size; have := HZ.out; omega) (by omega)), y.2, ?_, ?_, ?_, ?_⟩
      · exact look_hit (rest := rest) (by rw [hr, ← he']) HP.out
      · exact (HC2.out.set _).other (by omega) _
      · exact (HC3.out.other (by omega) _).set _
      · exact (Below.setCell HB.out (p := ⟨w.heap.size + 1, 0, none⟩) (by simp) _).setCell (p := ⟨w.heap.size + 1 + 1, 0, none⟩) (by simp; omega) _
    · rename_i he
      refine ⟨Kep.refl _ _ _ _, fun p hp => ?_, HC1.out, HC2.out, HC3.out, HB.out⟩
      rcases List.mem_append.1 hp with hp | hp
      · exact HP.out p hp
      · simp at hp
        subst hp
        simpa using he
  case done =>
    rintro W ⟨hp, c1, c2, c3, hB⟩ hK
    rw [eq2] at c3
    have k2 := c2.cell
    have k3 := c3.cell
    have f2 := c2.frozen
    have f3 := c3.frozen
    gi_wp2
    have hK' := ((KeepsOthers.setCell W ⟨w.heap.size + 1, 0, none⟩ (.int .i32 0)).trans (KeepsOthers.setCell _ ⟨w.heap.size + 1 + 1, 0, none⟩ (.bool false))).same _ _ hK rfl
    have d2 := boxed_put ((c2.set (.int .i32 0)).other (B' := w.heap.size + 1 + 1) (by omega) (.bool false)) (l := Wz.heap.size) (by have := HZ.out; omega) (.deferred none)
    have d3 := boxed_put ((c3.other (B' := w.heap.size + 1) (by omega) (.int .i32 0)).set (.bool false)) (l := Wz.heap.size) (by have := HZ.out; omega) (.deferred none)
    have e2 := d2.cell
    have e3 := d3.cell
    refine ⟨by simp, .inl ⟨_, _, rfl, run_takeDeferred hK', ?_⟩⟩
    rw [look_miss hp]
    refine ⟨.tuple #[.int .i32 0, .bool false], ?_, rfl, bel_put ((Below.setCell hB (p := ⟨w.heap.size + 1, 0, none⟩) (by simp) _).setCell (p := ⟨w.heap.size + 1 + 1, 0, none⟩) (by simp; omega) _) (by have := HZ.out; omega) _⟩
    simp [results, Tryz.f56, go_sem, e2, e3]
  case stop =>
    rintro W ⟨r, hr, c2, c3, hB⟩ hK
    rw [eq2] at c3
    have d2 := boxed_put c2 (l := Wz.heap.size) (by have := HZ.out; omega) (.deferred none)
    have d3 := boxed_put c3 (l := Wz.heap.size) (by have := HZ.out; omega) (.deferred none)
    have e2 := d2.cell
    have e3 := d3.cell
    gi_wp2
    refine ⟨by simp, .inl ⟨_, _, rfl, run_takeDeferred hK, ?_⟩⟩
    refine ⟨.tuple #[.int .i32 r, .bool true], ?_, rfl, bel_put hB (by have := HZ.out; omega) _⟩
    simp [results, Tryz.f56, go_sem, e2, e3]
end Go.Proofs.YtipigfgnpfhdbaaGreatDoor.U
namespace Go.Proofs.YtipigfgnpfhdbaaGreatDoor.U
open Go.RowKit Go.Shelf
set_option linter.unusedVariables false
attribute [local go_sem] Oper.semAt_some

theorem str_data (S : ByteArray) : S = ⟨S.data.toList.toArray⟩ := by simp
theorem goodS {s : Nat} (hs : s < 6) : ∃ (rs : List Ln) (T : List UInt8), strAt Tryz.f99 (s + 1) = ⟨T.toArray⟩ ∧ T.length < 4000 ∧ Good ⟨T.toArray⟩ (tabS s) rs := by
  obtain rfl | rfl | rfl | rfl | rfl | rfl : s = 0 ∨ s = 1 ∨ s = 2 ∨ s = 3 ∨ s = 4 ∨ s = 5 := by omega
  · refine ⟨recs3, txt3, by kernel_rfl, of_decide_eq_true (by kernel_rfl), ?_⟩
    have h := good3
    rwa [show S3 = ⟨txt3.toArray⟩ by kernel_rfl] at h
  · refine ⟨recs4, txt4, by kernel_rfl, of_decide_eq_true (by kernel_rfl), ?_⟩
    have h := good4
    rwa [show S4 = ⟨txt4.toArray⟩ by kernel_rfl] at h
  · refine ⟨recs5, txt5, by kernel_rfl, of_decide_eq_true (by kernel_rfl), ?_⟩
    have h := good5
    rwa [show S5 = ⟨txt5.toArray⟩ by kernel_rfl] at h
  · refine ⟨recs6, txt6, by kernel_rfl, of_decide_eq_true (by kernel_rfl), ?_⟩
    have h := good6
    rwa [show S6 = ⟨txt6.toArray⟩ by kernel_rfl] at h
  · refine ⟨recs7, txt7, by kernel_rfl, of_decide_eq_true (by kernel_rfl), ?_⟩
    have h := good7
    rwa [show S7 = ⟨txt7.toArray⟩ by kernel_rfl] at h
  · refine ⟨recs8, txt8, by kernel_rfl, of_decide_eq_true (by kernel_rfl), ?_⟩
    have h := good8
    rwa [show S8 = ⟨txt8.toArray⟩ by kernel_rfl] at h
set_option maxRecDepth 100000 in
set_option maxHeartbeats 1000000 in
theorem list_is (s : Nat) (hs : s < 6) (w : World) : Calls Tryz.prog 99 #[.int .i64 (3 + (s : Int))] w fun e w' => e = .returned (.string (strAt Tryz.f99 (s + 1))) ∧ w' = w := by
  refine (callsIn_wide (n := 4)).1 ?_
  refine callsIn_of_wp Tryz.func99 bodyL trivial ?_ rfl
  generalize posAt Tryz.f99 = p
  generalize strAt Tryz.f99 = Sx
  unfold codeL
  simp only [Tryz.ntmps99, List.size_toArray, List.length_cons, List.length_nil, Nat.reduceAdd, Nat.reduceSub, Array.replicate_succ, Array.replicate_zero, List.push_toArray, List.append_toArray, List.nil_append, List.cons_append]
  obtain ⟨v, hv⟩ : ∃ v : Int, (3 : Int) + (s : Int) = v := ⟨_, rfl⟩
  rw [hv]
  have hc : (s = 0 ∧ v = 3) ∨ (s = 1 ∧ v = 4) ∨ (s = 2 ∧ v = 5) ∨ (s = 3 ∧ v = 6) ∨ (s = 4 ∧ v = 7) ∨ (s = 5 ∧ v = 8) := by omega
  clear hv hs
  obtain ⟨rfl, rfl⟩ | ⟨rfl, rfl⟩ | ⟨rfl, rfl⟩ | ⟨rfl, rfl⟩ | ⟨rfl, rfl⟩ | ⟨rfl, rfl⟩ := hc
  all_goals gi_wp2
  all_goals go_ret
  all_goals exact ⟨rfl, rfl⟩

def RunS (n : Int) (w w' : World) : Prop := w'.cell? ⟨w.heap.size, 0, none⟩ = some (.int .i64 n) ∧ Inv n w.heap.size w [] w' ∧ w.heap.size + 3 ≤ w'.heap.size
theorem RunS.bel {n : Int} {w W W' : World} (h : RunS n w W) (hb : Bel W W') : RunS n w W' := by
  have hi : Inv n w.heap.size w [] W' := ⟨h.2.1.1, boxed_bel h.2.1.2.1 hb, boxed_bel h.2.1.2.2.1 hb, boxed_bel h.2.1.2.2.2.1 hb, h.2.1.2.2.2.2.trans hb⟩
  exact ⟨hi.2.1.cell, hi, Nat.le_trans h.2.2 (Below.size hb)⟩
set_option maxRecDepth 100000 in
set_option maxHeartbeats 2000000 in
theorem rune_is (s : Nat) (hs : s < 6) (n : Int) (hn63 : n ≤ 9223372036854775807) (w : World) (hT : Tz w) : Calls Tryz.prog 59 #[.int .i64 (3 + (s : Int)), .int .i64 n] w fun e w' => e = .returned (.tuple #[.int .i32 (look (tabS s) n).1, .bool (look (tabS s) n).2]) ∧ Bel w w' := by
  obtain ⟨rs, T, hST, hlen, hG⟩ := goodS hs
  have HLi := Lib.hid (fun w => list_is s hs w)
  rw [hST] at HLi
  have HT := Lib.hid hT
  have HL := Lib.hid (fun w h => line_is T (tabS s) rs hG hlen n hn63 w h)
  have hx := lineOf_ok hG.ok n
  have htl := hG.tells n
  rw [← htl]
  clear hs hST hlen hG htl hT hn63
  generalize (⟨T.toArray⟩ : ByteArray) = S at HL HLi
  generalize lineOf rs n = x at HL hx ⊢
  generalize (3 : Int) + (s : Int) = sv at HLi ⊢
  refine (callsIn_wide (n := 6)).1 ?_
  refine callsIn_of_wp_marks Tryz.func59 rfl trivial ?_ rfl
  simp only [Tryz.ntmps59, List.size_toArray, List.length_cons, List.length_nil, Nat.reduceAdd, Nat.reduceSub, Array.replicate_succ, Array.replicate_zero, List.push_toArray, List.append_toArray, List.nil_append, List.cons_append]
  have HX := Lib.hid hx
  clear hx
  gi_wp2_with fail
  have b1 : Boxed (((w.alloc (.cells #[.int .i64 n] 3)).alloc (.cells #[.int .i32 0] 21)).alloc (.cells #[.bool false] 4)) w.heap.size 3 (.int .i64 n) := ((Boxed.new w 3 _).alloc _).alloc _
  have b2 : Boxed (((w.alloc (.cells #[.int .i64 n] 3)).alloc (.cells #[.int .i32 0] 21)).alloc (.cells #[.bool false] 4)) (w.heap.size + 1) 21 (.int .i32 0) := by
    have h := (Boxed.new (w.alloc (.cells #[.int .i64 n] 3)) 21 (.int .i32 0)).alloc (.cells #[.bool false] 4)
    rwa [World.size_alloc] at h
  have b3 : Boxed (((w.alloc (.cells #[.int .i64 n] 3)).alloc (.cells #[.int .i32 0] 21)).alloc (.cells #[.bool false] 4)) (w.heap.size + 2) 4 (.bool false) := by
    have h := Boxed.new ((w.alloc (.cells #[.int .i64 n] 3)).alloc (.cells #[.int .i32 0] 21)) 4 (.bool false)
    rwa [World.size_alloc, World.size_alloc] at h
  have hB : Bel w (((w.alloc (.cells #[.int .i64 n] 3)).alloc (.cells #[.int .i32 0] 21)).alloc (.cells #[.bool false] 4)) := (((Bel.refl w).alloc _).alloc _).alloc _
  have hz : (((w.alloc (.cells #[.int .i64 n] 3)).alloc (.cells #[.int .i32 0] 21)).alloc (.cells #[.bool false] 4)).heap.size = w.heap.size + 3 := by simp
  generalize (((w.alloc (.cells #[.int .i64 n] 3)).alloc (.cells #[.int .i32 0] 21)).alloc (.cells #[.bool false] 4)) = W0 at b1 b2 b3 hB hz ⊢
  have HS0 : Hid (RunS n w W0) := Lib.hid ⟨b1.cell, ⟨by simp, b1, b2, b3, hB⟩, by omega⟩
  have HLi2 : Hid (∀ w' : World, (w'.cell? ⟨w.heap.size, 0, none⟩ = some (.int .i64 n) ∧ Inv n w.heap.size w [] w' ∧ w.heap.size + 3 ≤ w'.heap.size) → Calls Tryz.prog 99 #[.int .i64 sv] w' fun e w'' => e = .returned (.string S) ∧ (w''.cell? ⟨w.heap.size, 0, none⟩ = some (.int .i64 n) ∧ Inv n w.heap.size w [] w'' ∧ w.heap.size + 3 ≤ w''.heap.size)) :=
    Lib.hid fun w' hc => (HLi.out w').mono fun e w'' he => ⟨he.1, by rw [he.2]; exact hc⟩
  have HL2 : Hid (∀ w' : World, (w'.cell? ⟨w.heap.size, 0, none⟩ = some (.int .i64 n) ∧ Inv n w.heap.size w [] w' ∧ w.heap.size + 3 ≤ w'.heap.size) → Calls Tryz.prog 93 #[.string S, .int .i64 n] w' fun e w'' => e = .returned (.string ⟨x.l.toArray⟩) ∧ (w''.cell? ⟨w.heap.size, 0, none⟩ = some (.int .i64 n) ∧ Inv n w.heap.size w [] w'' ∧ w.heap.size + 3 ≤ w''.heap.size)) :=
    Lib.hid fun w' hc => (HL.out w' (HT.out.bel hc.2.1.2.2.2.2)).mono fun e w'' he => ⟨he.1, RunS.bel hc he.2⟩
  clear b1 b2 b3 hB hz HL HLi
  refine wpIn_wide.2 ?_
  go_region_held3 (fun w' => w'.cell? ⟨w.heap.size, 0, none⟩ = some (.int .i64 n) ∧ Inv n w.heap.size w [] w' ∧ w.heap.size + 3 ≤ w'.heap.size)
    (first | assumption | exact RunS.bel HS0.out ((Bel.refl _).drew) | exact RunS.bel (by assumption) ((Bel.refl _).alloc _))
    (first | (go_at_call 99; refine (HLi2.out _ (by assumption)).mono ?_; rintro e w1 ⟨rfl, hs1⟩) | (go_at_call 93; refine (HL2.out _ (by assumption)).mono ?_; rintro e w2 ⟨rfl, hs2⟩))
  have HI0 := Lib.hid hs2.2.1
  have HZ := Lib.hid hs2.2.2
  clear hs1 hs2
  gi_wp2_with fail
  have eq2 : w.heap.size + 2 = w.heap.size + 1 + 1 := rfl
  refine range_top enc2 (outW x.st x.fs) 0 0 (by decide) (by omega) rfl (enters_of Tryz.func94 (by kernel_rfl) rfl) (fun _ => rfl) (numbers_in x HX.out w2)
    (Inv n w.heap.size w) (Fnd (outW x.st x.fs) n w.heap.size w) (fun pre W h => HT.out.bel h.2.2.2.2)
    (fun pre W W' h hc => h.tch hc (Nat.le_refl _) HZ.out (Nat.le_refl _)) (fun W W' h hc => h.tch hc (Nat.le_refl _) HZ.out (Nat.le_refl _)) HI0.out
    (fun y => { tmps := #[.int .i64 sv, .int .i64 n, undef, .pointer (some ⟨w.heap.size, 0, none⟩), .pointer (some ⟨w.heap.size + 1, 0, none⟩), .pointer (some ⟨w.heap.size + 1 + 1, 0, none⟩), .int .i64 y.1, .int .i32 y.2, .int .i64 sv, .string S, .int .i64 n, .string ⟨x.l.toArray⟩,
      .func (.func 94) #[.string ⟨x.l.toArray⟩] #[], .int .i64 y.1, .int .i32 y.2, undef, undef, undef, undef], defers := [] }) ?assign ?body ?done ?stop
  case assign =>
    intro l y W K hK
    dsimp only [enc2]
    gi_wp2
    exact hK
  case body =>
    rintro l pre y W hl - ⟨hp, c1, c2, c3, hB⟩ hx
    rw [eq2] at c3
    have k1 := c1.cell
    have k2 := c2.cell
    have k3 := c3.cell
    have f2 := c2.frozen
    have f3 := c3.frozen
    have HC2 := Lib.hid c2
    have HC3 := Lib.hid c3
    have HC1 := Lib.hid c1
    have HB := Lib.hid hB
    have HXx := Lib.hid hx
    have HP := Lib.hid hp
    clear c1 c2 c3 hB hx hp hl
    gi_wp2
    · rename_i he
      have he' : y.1 = n := by simpa using he
      obtain ⟨rest, hr⟩ := HXx.out
      refine ⟨(Kep.cell _ ⟨w.heap.size + 1, 0, none⟩ _ (by show w.heap.size + 1 < w2.heap.size; have := HZ.out; omega) (by omega)).trans (Kep.cell _ ⟨w.heap.size + 1 + 1, 0, none⟩ _ (by show w.heap.size + 1 + 1 < w2.heap.size; have := HZ.out; omega) (by omega)), y.2, ?_, ?_, ?_, ?_⟩
      · exact look_hit (rest := rest) (by rw [hr, ← he']) HP.out
      · exact (HC2.out.set _).other (by omega) _
      · exact (HC3.out.other (by omega) _).set _
      · exact (Below.setCell HB.out (p := ⟨w.heap.size + 1, 0, none⟩) (by simp) _).setCell (p := ⟨w.heap.size + 1 + 1, 0, none⟩) (by simp; omega) _
    · rename_i he
      refine ⟨Kep.refl _ _ _ _, fun p hp => ?_, HC1.out, HC2.out, HC3.out, HB.out⟩
      rcases List.mem_append.1 hp with hp | hp
      · exact HP.out p hp
      · simp at hp
        subst hp
        simpa using he
  case done =>
    rintro W ⟨hp, c1, c2, c3, hB⟩ hK
    rw [eq2] at c3
    have k2 := c2.cell
    have k3 := c3.cell
    have f2 := c2.frozen
    have f3 := c3.frozen
    gi_wp2
    have hK' := ((KeepsOthers.setCell W ⟨w.heap.size + 1, 0, none⟩ (.int .i32 0)).trans (KeepsOthers.setCell _ ⟨w.heap.size + 1 + 1, 0, none⟩ (.bool false))).same _ _ hK rfl
    have d2 := boxed_put ((c2.set (.int .i32 0)).other (B' := w.heap.size + 1 + 1) (by omega) (.bool false)) (l := w2.heap.size) (by have := HZ.out; omega) (.deferred none)
    have d3 := boxed_put ((c3.other (B' := w.heap.size + 1) (by omega) (.int .i32 0)).set (.bool false)) (l := w2.heap.size) (by have := HZ.out; omega) (.deferred none)
    have e2 := d2.cell
    have e3 := d3.cell
    refine ⟨by simp, .inl ⟨_, _, rfl, run_takeDeferred hK', ?_⟩⟩
    rw [look_miss hp]
    refine ⟨.tuple #[.int .i32 0, .bool false], ?_, rfl, bel_put ((Below.setCell hB (p := ⟨w.heap.size + 1, 0, none⟩) (by simp) _).setCell (p := ⟨w.heap.size + 1 + 1, 0, none⟩) (by simp; omega) _) (by have := HZ.out; omega) _⟩
    simp [results, Tryz.f59, go_sem, e2, e3]
  case stop =>
    rintro W ⟨r, hr, c2, c3, hB⟩ hK
    rw [eq2] at c3
    have d2 := boxed_put c2 (l := w2.heap.size) (by have := HZ.out; omega) (.deferred none)
    have d3 := boxed_put c3 (l := w2.heap.size) (by have := HZ.out; omega) (.deferred none)
    have e2 := d2.cell
    have e3 := d3.cell
    gi_wp2
    refine ⟨by simp, .inl ⟨_, _, rfl, run_takeDeferred hK, ?_⟩⟩
    refine ⟨.tuple #[.int .i32 r, .bool true], ?_, rfl, bel_put hB (by have := HZ.out; omega) _⟩
    simp [results, Tryz.f59, go_sem, e2, e3]
end Go.Proofs.YtipigfgnpfhdbaaGreatDoor.U
