/- UtfLeast answers true at every two numbers; nothing that was there is changed. -/
import Derived.Test.YtambempcicakgaaWalkOrder
namespace Go.Proofs.Ytambempcicakgaa.U
open Go.RowKit

def DecIs (w0 : World) (out : List Int) (n : Nat) (E : Int) (at_ : Nat) (e : Ending) (w : World) : Prop :=
  ∃ A cap, e = .returned (.tuple #[.slice A n cap, .agg #[.int .i64 E, .int .i64 at_]]) ∧ n ≤ cap ∧ Rd w w.heap.size .i32 A out ∧ Below w0.heap.size w0 w

theorem decode_is (A : Option Addr) (l out : List Int) (n c m at_ : Nat) (E : Int) (w : World) (hln : l.length = n) (h : Rd w w.heap.size .u8 A l) (hby : Bytes l) (hn : n ≤ 65536) (hcl : n ≤ c)
    (hD : Decoded l out E at_) (hm : out.length = m) : Calls Try.prog 11 #[.slice A n c] w (DecIs w out m E at_) := by
  refine (decode_any A l n c w hln h hby hn hcl).mono ?_
  rintro e w' ⟨v, out', E', n', rfl, hd, hown, hbel⟩
  obtain ⟨rfl, rfl, rfl⟩ := decoded_one hd hD
  obtain ⟨A', cap, rfl, hcap, hr⟩ := own_rd (k := .i32) hown
  subst hm
  exact ⟨A', cap, rfl, hcap, hr, hbel⟩

/-- Bytes that are made of a number's bits as a scalar's of n bytes are. -/
def made (n : Nat) (x : Int) : List Int :=
  if n = 2 then [192 + x / 64, 128 + x % 64] else if n = 3 then [224 + x / 4096, 128 + x / 64 % 64, 128 + x % 64]
  else [240 + x / 262144, 128 + x / 4096 % 64, 128 + x / 64 % 64, 128 + x % 64]

theorem made_yes {n : Nat} {x : Int} (h : ln x = n) (h2 : 2 ≤ n) : Decoded (made n x) [x] 0 0 := by
  have hs : scB x = true := sc_of_ln (by omega)
  refine .inl ⟨rfl, rfl, fun r hr => by rw [List.mem_singleton.1 hr]; exact hs, ?_⟩
  rcases enc_cases hs with ⟨_, _, c, e⟩ | ⟨_, _, c, e⟩ | ⟨_, _, c, e⟩ | ⟨_, _, c, e⟩
  · omega
  · obtain rfl : n = 2 := by omega
    simp [encAll, e, made]
  · obtain rfl : n = 3 := by omega
    simp [encAll, e, made]
  · obtain rfl : n = 4 := by omega
    simp [encAll, e, made]

theorem made_no {n : Nat} {x : Int} (h : ln x ≠ n) (hn : n = 2 ∧ 0 ≤ x ∧ x < 2048 ∨ n = 3 ∧ 0 ≤ x ∧ x < 65536 ∨ n = 4 ∧ 0 ≤ x ∧ x < 2097152) : Decoded (made n x) [] 2 0 := by
  refine .inr ⟨rfl, rfl, [], made n x, by simp [AllSc], rfl, rfl, ?_, ?_⟩
  · rcases hn with ⟨rfl, _⟩ | ⟨rfl, _⟩ | ⟨rfl, _⟩ <;> simp [made]
  · intro r t hs he
    have h1 := first_inv hs he
    rcases hn with ⟨rfl, a, b⟩ | ⟨rfl, a, b⟩ | ⟨rfl, a, b⟩
    · have e : made 2 x = [192 + x / 64, 128 + x % 64] := rfl
      rw [e] at h1
      have h2 : an (192 + x / 64) = ln r := by simpa using h1.1
      have h3 : ln r = 2 := by rcases an_cases (192 + x / 64) with h | h | h | h | h <;> omega
      rw [h3] at h1
      have h4 := h1.2.2.2
      simp [facc, hd2] at h4
      obtain rfl : x = r := by omega
      exact h h3
    · have e : made 3 x = [224 + x / 4096, 128 + x / 64 % 64, 128 + x % 64] := rfl
      rw [e] at h1
      have h2 : an (224 + x / 4096) = ln r := by simpa using h1.1
      have h3 : ln r = 3 := by rcases an_cases (224 + x / 4096) with h | h | h | h | h <;> omega
      rw [h3] at h1
      have h4 := h1.2.2.2
      simp [facc, hd3] at h4
      obtain rfl : x = r := by omega
      exact h h3
    · have e : made 4 x = [240 + x / 262144, 128 + x / 4096 % 64, 128 + x / 64 % 64, 128 + x % 64] := rfl
      rw [e] at h1
      have h2 : an (240 + x / 262144) = ln r := by simpa using h1.1
      have h3 : ln r = 4 := by rcases an_cases (240 + x / 262144) with h | h | h | h | h <;> omega
      rw [h3] at h1
      have h4 := h1.2.2.2
      simp [facc, hd4] at h4
      obtain rfl : x = r := by omega
      exact h h3

/-- Bytes laid into a new block. -/
theorem rd_lit {w : World} {cs : Array Value} {l : List Int} {k : IntKind} {t : TypeId} (h : cs.toList = l.map (Value.int k)) : Rd (w.alloc (.cells cs t)) (w.alloc (.cells cs t)).heap.size k (some ⟨w.heap.size, 0, none⟩) l := by
  have e : cs = (l.map (Value.int k)).toArray := by rw [← h]
  rw [e]
  exact rd_new w k t l

theorem made_bytes {n : Nat} {x : Int} (hn : n = 2 ∧ 0 ≤ x ∧ x < 2048 ∨ n = 3 ∧ 0 ≤ x ∧ x < 65536 ∨ n = 4 ∧ 0 ≤ x ∧ x < 2097152) : Bytes (made n x) := by
  intro y hy
  rcases hn with ⟨rfl, a, b⟩ | ⟨rfl, a, b⟩ | ⟨rfl, a, b⟩ <;> simp [made] at hy <;> omega

set_option maxHeartbeats 1000000 in
set_option maxRecDepth 100000 in
theorem least_2 (n s : Int) (w : World) (h0 : 0 ≤ n) (h1 : n < 4294967296) (h2 : 0 ≤ s) (h3 : s < 256) (hs : s % 3 = 0) :
    Calls Try.prog 7 #[.int .u32 n, .int .u8 s] w fun e w' => e = .returned (.bool true) ∧ Below w.heap.size w w' := by
  have hs1 : s % 3 + 2 = 2 := by omega
  go_enter Try.func7, Try.ntmps7
  go_wp2_with fail
  generalize hx : n % 2097152 % 2048 = x
  have hx0 : 0 ≤ x := by omega
  have hx1 : x < 2048 := by omega
  by_cases hln : ln x = 2
  · have hD := made_yes (n := 2) hln (by omega)
    have hsc : scB x = true := sc_of_ln (by omega)
    have HLN := Lib.hid (show (ln x : Int) = 2 by omega)
    refine (decode_is _ (made 2 x) [x] 2 2 1 0 0 _ (by simp [made]) (by exact rd_lit (by simp [made]; omega)) (made_bytes (by omega)) (by omega) (by omega) hD rfl).mono ?_
    rintro e w1 ⟨A, cap, rfl, hcap, hr, hb⟩
    obtain ⟨g, off, rfl, hg, hc⟩ := hr 0 x rfl
    have hc' : w1.cell? ⟨g, off, none⟩ = some (.int .i32 x) := hc
    have hw1 : Below w.heap.size w w1 := ((Below.refl _ _).alloc (Nat.le_refl _) _).trans (hb.mono (by simp))
    have hz1 : w.heap.size ≤ w1.heap.size := hw1.size
    clear hx hc hb hr hD hln
    go_wp2_with (first
      | (go_at_call 18; (with_reducible refine (rscalar_is _ _ _ hsc).mono ?_); rintro e w' ⟨rfl, rfl⟩)
      | (go_at_call 20; (with_reducible refine (rlen_is _ _ _ HLN.out).mono ?_); rintro e w' ⟨rfl, rfl⟩))
    refine (answers_any _).mono ?_
    rintro e w2 ⟨rfl, hb2⟩
    have hq0 : w2.cell? ⟨w1.heap.size, 0, none⟩ = some (.int .i64 0) := by
      rw [hb2.cell (p := ⟨w1.heap.size, 0, none⟩) (by simp)]; simp
    have hq1 : w2.cell? ⟨w1.heap.size, 1, none⟩ = some (.int .i64 0) := by
      rw [hb2.cell (p := ⟨w1.heap.size, 1, none⟩) (by simp)]; simp
    have hq2 : w2.cell? ⟨g, off, none⟩ = some (.int .i32 x) := by
      rw [hb2.cell (p := ⟨g, off, none⟩) (by simp; omega), World.cell?_alloc_lt _ _ _ (by simpa using hg)]; exact hc'
    have hw2 : Below w.heap.size w w2 := (hw1.alloc hz1 _).trans (hb2.mono (by simp; omega))
    clear hb2
    go_wp2
    go_ret
    exact ⟨rfl, hw2⟩
  · have hD := made_no (n := 2) (x := x) hln (by omega)
    refine (decode_is _ (made 2 x) [] 2 2 0 0 2 _ (by simp [made]) (by exact rd_lit (by simp [made]; omega)) (made_bytes (by omega)) (by omega) (by omega) hD rfl).mono ?_
    rintro e w1 ⟨A, cap, rfl, hcap, hr, hb⟩
    have hw1 : Below w.heap.size w w1 := ((Below.refl _ _).alloc (Nat.le_refl _) _).trans (hb.mono (by simp))
    have hz1 : w.heap.size ≤ w1.heap.size := hw1.size
    obtain ⟨b, hsc⟩ : ∃ b : Bool, scB x = b := ⟨_, rfl⟩
    obtain ⟨m, hm⟩ : ∃ m : Int, (ln x : Int) = m := ⟨_, rfl⟩
    have hmk : (m == 2) = false := by simp; omega
    have HSC := Lib.hid hsc
    have HM := Lib.hid hm
    clear hx hb hr hD hln hsc hm
    cases b
    all_goals
      go_wp2_with (first
        | (go_at_call 18; (with_reducible refine (rscalar_is _ _ _ HSC.out).mono ?_); rintro e w' ⟨rfl, rfl⟩)
        | (go_at_call 20; (with_reducible refine (rlen_is _ _ _ HM.out).mono ?_); rintro e w' ⟨rfl, rfl⟩))
      refine (answers_any _).mono ?_
      rintro e w2 ⟨rfl, hb2⟩
      have hq0 : w2.cell? ⟨w1.heap.size, 0, none⟩ = some (.int .i64 2) := by
        rw [hb2.cell (p := ⟨w1.heap.size, 0, none⟩) (by simp)]; simp
      have hq1 : w2.cell? ⟨w1.heap.size, 1, none⟩ = some (.int .i64 0) := by
        rw [hb2.cell (p := ⟨w1.heap.size, 1, none⟩) (by simp)]; simp
      have hw2 : Below w.heap.size w w2 := (hw1.alloc hz1 _).trans (hb2.mono (by simp; omega))
      clear hb2
      go_wp2
      go_ret
      exact ⟨rfl, hw2⟩

set_option maxHeartbeats 1000000 in
set_option maxRecDepth 100000 in
theorem least_3 (n s : Int) (w : World) (h0 : 0 ≤ n) (h1 : n < 4294967296) (h2 : 0 ≤ s) (h3 : s < 256) (hs : s % 3 = 1) :
    Calls Try.prog 7 #[.int .u32 n, .int .u8 s] w fun e w' => e = .returned (.bool true) ∧ Below w.heap.size w w' := by
  have hs1 : s % 3 + 2 = 3 := by omega
  go_enter Try.func7, Try.ntmps7
  go_wp2_with fail
  generalize hx : n % 2097152 % 65536 = x
  have hx0 : 0 ≤ x := by omega
  have hx1 : x < 65536 := by omega
  by_cases hln : ln x = 3
  · have hD := made_yes (n := 3) hln (by omega)
    have hsc : scB x = true := sc_of_ln (by omega)
    have HLN := Lib.hid (show (ln x : Int) = 3 by omega)
    refine (decode_is _ (made 3 x) [x] 3 3 1 0 0 _ (by simp [made]) (by exact rd_lit (by simp [made]; omega)) (made_bytes (by omega)) (by omega) (by omega) hD rfl).mono ?_
    rintro e w1 ⟨A, cap, rfl, hcap, hr, hb⟩
    obtain ⟨g, off, rfl, hg, hc⟩ := hr 0 x rfl
    have hc' : w1.cell? ⟨g, off, none⟩ = some (.int .i32 x) := hc
    have hw1 : Below w.heap.size w w1 := ((Below.refl _ _).alloc (Nat.le_refl _) _).trans (hb.mono (by simp))
    have hz1 : w.heap.size ≤ w1.heap.size := hw1.size
    clear hx hc hb hr hD hln
    go_wp2_with (first
      | (go_at_call 18; (with_reducible refine (rscalar_is _ _ _ hsc).mono ?_); rintro e w' ⟨rfl, rfl⟩)
      | (go_at_call 20; (with_reducible refine (rlen_is _ _ _ HLN.out).mono ?_); rintro e w' ⟨rfl, rfl⟩))
    refine (answers_any _).mono ?_
    rintro e w2 ⟨rfl, hb2⟩
    have hq0 : w2.cell? ⟨w1.heap.size, 0, none⟩ = some (.int .i64 0) := by
      rw [hb2.cell (p := ⟨w1.heap.size, 0, none⟩) (by simp)]; simp
    have hq1 : w2.cell? ⟨w1.heap.size, 1, none⟩ = some (.int .i64 0) := by
      rw [hb2.cell (p := ⟨w1.heap.size, 1, none⟩) (by simp)]; simp
    have hq2 : w2.cell? ⟨g, off, none⟩ = some (.int .i32 x) := by
      rw [hb2.cell (p := ⟨g, off, none⟩) (by simp; omega), World.cell?_alloc_lt _ _ _ (by simpa using hg)]; exact hc'
    have hw2 : Below w.heap.size w w2 := (hw1.alloc hz1 _).trans (hb2.mono (by simp; omega))
    clear hb2
    go_wp2
    go_ret
    exact ⟨rfl, hw2⟩
  · have hD := made_no (n := 3) (x := x) hln (by omega)
    refine (decode_is _ (made 3 x) [] 3 3 0 0 2 _ (by simp [made]) (by exact rd_lit (by simp [made]; omega)) (made_bytes (by omega)) (by omega) (by omega) hD rfl).mono ?_
    rintro e w1 ⟨A, cap, rfl, hcap, hr, hb⟩
    have hw1 : Below w.heap.size w w1 := ((Below.refl _ _).alloc (Nat.le_refl _) _).trans (hb.mono (by simp))
    have hz1 : w.heap.size ≤ w1.heap.size := hw1.size
    obtain ⟨b, hsc⟩ : ∃ b : Bool, scB x = b := ⟨_, rfl⟩
    obtain ⟨m, hm⟩ : ∃ m : Int, (ln x : Int) = m := ⟨_, rfl⟩
    have hmk : (m == 3) = false := by simp; omega
    have HSC := Lib.hid hsc
    have HM := Lib.hid hm
    clear hx hb hr hD hln hsc hm
    cases b
    all_goals
      go_wp2_with (first
        | (go_at_call 18; (with_reducible refine (rscalar_is _ _ _ HSC.out).mono ?_); rintro e w' ⟨rfl, rfl⟩)
        | (go_at_call 20; (with_reducible refine (rlen_is _ _ _ HM.out).mono ?_); rintro e w' ⟨rfl, rfl⟩))
      refine (answers_any _).mono ?_
      rintro e w2 ⟨rfl, hb2⟩
      have hq0 : w2.cell? ⟨w1.heap.size, 0, none⟩ = some (.int .i64 2) := by
        rw [hb2.cell (p := ⟨w1.heap.size, 0, none⟩) (by simp)]; simp
      have hq1 : w2.cell? ⟨w1.heap.size, 1, none⟩ = some (.int .i64 0) := by
        rw [hb2.cell (p := ⟨w1.heap.size, 1, none⟩) (by simp)]; simp
      have hw2 : Below w.heap.size w w2 := (hw1.alloc hz1 _).trans (hb2.mono (by simp; omega))
      clear hb2
      go_wp2
      go_ret
      exact ⟨rfl, hw2⟩

set_option maxHeartbeats 1000000 in
set_option maxRecDepth 100000 in
theorem least_4 (n s : Int) (w : World) (h0 : 0 ≤ n) (h1 : n < 4294967296) (h2 : 0 ≤ s) (h3 : s < 256) (hs : s % 3 = 2) :
    Calls Try.prog 7 #[.int .u32 n, .int .u8 s] w fun e w' => e = .returned (.bool true) ∧ Below w.heap.size w w' := by
  have hs1 : s % 3 + 2 = 4 := by omega
  go_enter Try.func7, Try.ntmps7
  go_wp2_with fail
  generalize hx : n % 2097152 = x
  have hx0 : 0 ≤ x := by omega
  have hx1 : x < 2097152 := by omega
  by_cases hln : ln x = 4
  · have hD := made_yes (n := 4) hln (by omega)
    have hsc : scB x = true := sc_of_ln (by omega)
    have HLN := Lib.hid (show (ln x : Int) = 4 by omega)
    refine (decode_is _ (made 4 x) [x] 4 4 1 0 0 _ (by simp [made]) (by exact rd_lit (by simp [made]; omega)) (made_bytes (by omega)) (by omega) (by omega) hD rfl).mono ?_
    rintro e w1 ⟨A, cap, rfl, hcap, hr, hb⟩
    obtain ⟨g, off, rfl, hg, hc⟩ := hr 0 x rfl
    have hc' : w1.cell? ⟨g, off, none⟩ = some (.int .i32 x) := hc
    have hw1 : Below w.heap.size w w1 := ((Below.refl _ _).alloc (Nat.le_refl _) _).trans (hb.mono (by simp))
    have hz1 : w.heap.size ≤ w1.heap.size := hw1.size
    clear hx hc hb hr hD hln
    go_wp2_with (first
      | (go_at_call 18; (with_reducible refine (rscalar_is _ _ _ hsc).mono ?_); rintro e w' ⟨rfl, rfl⟩)
      | (go_at_call 20; (with_reducible refine (rlen_is _ _ _ HLN.out).mono ?_); rintro e w' ⟨rfl, rfl⟩))
    refine (answers_any _).mono ?_
    rintro e w2 ⟨rfl, hb2⟩
    have hq0 : w2.cell? ⟨w1.heap.size, 0, none⟩ = some (.int .i64 0) := by
      rw [hb2.cell (p := ⟨w1.heap.size, 0, none⟩) (by simp)]; simp
    have hq1 : w2.cell? ⟨w1.heap.size, 1, none⟩ = some (.int .i64 0) := by
      rw [hb2.cell (p := ⟨w1.heap.size, 1, none⟩) (by simp)]; simp
    have hq2 : w2.cell? ⟨g, off, none⟩ = some (.int .i32 x) := by
      rw [hb2.cell (p := ⟨g, off, none⟩) (by simp; omega), World.cell?_alloc_lt _ _ _ (by simpa using hg)]; exact hc'
    have hw2 : Below w.heap.size w w2 := (hw1.alloc hz1 _).trans (hb2.mono (by simp; omega))
    clear hb2
    go_wp2
    go_ret
    exact ⟨rfl, hw2⟩
  · have hD := made_no (n := 4) (x := x) hln (by omega)
    refine (decode_is _ (made 4 x) [] 4 4 0 0 2 _ (by simp [made]) (by exact rd_lit (by simp [made]; omega)) (made_bytes (by omega)) (by omega) (by omega) hD rfl).mono ?_
    rintro e w1 ⟨A, cap, rfl, hcap, hr, hb⟩
    have hw1 : Below w.heap.size w w1 := ((Below.refl _ _).alloc (Nat.le_refl _) _).trans (hb.mono (by simp))
    have hz1 : w.heap.size ≤ w1.heap.size := hw1.size
    obtain ⟨b, hsc⟩ : ∃ b : Bool, scB x = b := ⟨_, rfl⟩
    obtain ⟨m, hm⟩ : ∃ m : Int, (ln x : Int) = m := ⟨_, rfl⟩
    have hmk : (m == 4) = false := by simp; omega
    have HSC := Lib.hid hsc
    have HM := Lib.hid hm
    clear hx hb hr hD hln hsc hm
    cases b
    all_goals
      go_wp2_with (first
        | (go_at_call 18; (with_reducible refine (rscalar_is _ _ _ HSC.out).mono ?_); rintro e w' ⟨rfl, rfl⟩)
        | (go_at_call 20; (with_reducible refine (rlen_is _ _ _ HM.out).mono ?_); rintro e w' ⟨rfl, rfl⟩))
      refine (answers_any _).mono ?_
      rintro e w2 ⟨rfl, hb2⟩
      have hq0 : w2.cell? ⟨w1.heap.size, 0, none⟩ = some (.int .i64 2) := by
        rw [hb2.cell (p := ⟨w1.heap.size, 0, none⟩) (by simp)]; simp
      have hq1 : w2.cell? ⟨w1.heap.size, 1, none⟩ = some (.int .i64 0) := by
        rw [hb2.cell (p := ⟨w1.heap.size, 1, none⟩) (by simp)]; simp
      have hw2 : Below w.heap.size w w2 := (hw1.alloc hz1 _).trans (hb2.mono (by simp; omega))
      clear hb2
      go_wp2
      go_ret
      exact ⟨rfl, hw2⟩

theorem walk_least (n s : Int) (w : World) (h0 : 0 ≤ n) (h1 : n < 4294967296) (h2 : 0 ≤ s) (h3 : s < 256) :
    Calls Try.prog 7 #[.int .u32 n, .int .u8 s] w fun e w' => e = .returned (.bool true) ∧ Below w.heap.size w w' := by
  obtain h | h | h : s % 3 = 0 ∨ s % 3 = 1 ∨ s % 3 = 2 := by omega
  · exact least_2 n s w h0 h1 h2 h3 h
  · exact least_3 n s w h0 h1 h2 h3 h
  · exact least_4 n s w h0 h1 h2 h3 h
end Go.Proofs.Ytambempcicakgaa.U
