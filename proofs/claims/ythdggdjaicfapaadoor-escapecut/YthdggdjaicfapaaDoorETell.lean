/- What bytes.Equal, bytes.HasPrefix and escape's lasts, among, alone and tell answer. -/
import Derived.Test.YthdggdjaicfapaaDoorETrim
import Derived.Test.YthdggdjaicfapaaDoorSides
import Derived.Test.YthdggdjaicfapaaDoorRef
import Derived.Lib.SlBytesConst
namespace Go.Proofs.YthdggdjaicfapaaDoor.U
open Go.RowKit
set_option linter.unusedVariables false

theorem bs_back {l : List Int} (h : ∀ x ∈ l, 0 ≤ x ∧ x < 256) : (bs l).map (fun b => (b.toNat : Int)) = l := by
  unfold bs
  rw [List.map_map]
  conv => rhs; rw [← List.map_id l]
  apply List.map_congr_left
  intro x hx
  have := h x hx
  simp only [Function.comp, id]
  rw [toNat_of this.1 this.2]
  omega
theorem str_inj {a b : List Int} (ha : ∀ x ∈ a, 0 ≤ x ∧ x < 256) (hb : ∀ x ∈ b, 0 ≤ x ∧ x < 256) (h : str a = str b) : a = b := by
  have e : bs a = bs b := by
    have := congrArg (fun s : ByteArray => s.data.toList) h
    simpa [str] using this
  rw [← bs_back ha, e, bs_back hb]
theorem str_beq {a b : List Int} (ha : ∀ x ∈ a, 0 ≤ x ∧ x < 256) (hb : ∀ x ∈ b, 0 ≤ x ∧ x < 256) : ((str a).toList == (str b).toList) = decide (a = b) := by
  rw [ByteArray.toList_eq, ByteArray.toList_eq]
  by_cases h : a = b
  · subst h; simp
  · rw [decide_eq_false h, beq_eq_false_iff_ne]
    intro e
    exact h (str_inj ha hb (by obtain e' := congrArg List.toArray e; simpa [ByteArray.ext_iff] using e'))

theorem equal_is (g1 o1 g2 o2 n m c d : Nat) (xs ys : List Int) (b : Bool) (w : World) (hx : Rd w w.heap.size .u8 (some ⟨g1, o1, none⟩) xs) (hy : Rd w w.heap.size .u8 (some ⟨g2, o2, none⟩) ys)
    (hn : xs.length = n) (hm : ys.length = m) (bx : ∀ x ∈ xs, 0 ≤ x ∧ x < 256) (by' : ∀ x ∈ ys, 0 ≤ x ∧ x < 256) (hb : decide (xs = ys) = b) :
    Calls Tryd.prog 38 #[.slice (some ⟨g1, o1, none⟩) n c, .slice (some ⟨g2, o2, none⟩) m d] w fun e w' => e = .returned (.bool b) ∧ w = w' := by
  have r1 := run_str_bytes (P := Tryd.prog) (c := c) w 22 9 5 Tryd.underlying22 Tryd.underlying5 Tryd.underlying9 hx hn bx
  have r2 := run_str_bytes (P := Tryd.prog) (c := d) w 22 9 5 Tryd.underlying22 Tryd.underlying5 Tryd.underlying9 hy hm by'
  have hq : ((str xs).toList == (str ys).toList) = b := (str_beq bx by').trans hb
  clear hx hy hn hm bx by' hb
  go_enter Tryd.func38, Tryd.ntmps38
  go_wp2
  go_ret
  exact ⟨rfl, rfl⟩

theorem prefix_is (A : Option Addr) (g2 o2 n m c d : Nat) (xs ys : List Int) (b : Bool) (w : World) (hx : Rd w w.heap.size .u8 A xs) (hy : Rd w w.heap.size .u8 (some ⟨g2, o2, none⟩) ys)
    (hn : xs.length = n) (hm : ys.length = m) (hm0 : 0 < m) (hc : n ≤ c) (bx : ∀ x ∈ xs, 0 ≤ x ∧ x < 256) (by' : ∀ x ∈ ys, 0 ≤ x ∧ x < 256) (hb : ys.isPrefixOf xs = b) :
    Calls Tryd.prog 32 #[.slice A n c, .slice (some ⟨g2, o2, none⟩) m d] w fun e w' => e = .returned (.bool b) ∧ w = w' := by
  by_cases hlt : n < m
  · have hq : decide ((m : Int) ≤ (n : Int)) = false := decide_eq_false (by omega)
    obtain rfl : b = false := by
      rw [← hb, ← Bool.not_eq_true, List.isPrefixOf_iff_prefix]
      intro h
      have := h.length_le
      omega
    clear hx hy hn hm hm0 hc bx by' hb
    go_enter Tryd.func32, Tryd.ntmps32
    go_wp2
    go_ret
    exact ⟨rfl, rfl⟩
  · have hle : m ≤ n := by omega
    obtain ⟨g1, o1, rfl, _, _⟩ := hx.isSome (by omega)
    have hq : decide ((m : Int) ≤ (n : Int)) = true := decide_eq_true (by omega)
    have hq2 : (m : Int) ≤ (n : Int) := by omega
    have hq3 : (m : Int) ≤ (c : Int) := by omega
    have hb' : decide (xs.take m = ys) = b := by
      rw [← hb, Bool.eq_iff_iff, decide_eq_true_iff, List.isPrefixOf_iff_prefix, List.prefix_iff_eq_take, hm]
      exact eq_comm
    have HE := Lib.hid (equal_is g1 o1 g2 o2 m m c d (xs.take m) ys b w hx.take hy (by rw [List.length_take]; omega) hm (fun x hx => bx x (List.mem_of_mem_take hx)) by' hb')
    clear hx hy hn hm hm0 hc bx by' hb hb' hlt
    go_enter Tryd.func32, Tryd.ntmps32
    go_wp2_with (go_at_call 38; (with_reducible refine HE.out.mono ?_); rintro e w' ⟨rfl, rfl⟩)
    go_ret
    exact ⟨rfl, rfl⟩

/-- A new list of a set's last bytes. -/
def LastPost (w : World) (l : List Int) (n : Nat) (e : Ending) (w' : World) : Prop := ∃ g cap, e = .returned (.slice (some ⟨g, 0, none⟩) n cap) ∧ Rd w' w'.heap.size .u8 (some ⟨g, 0, none⟩) l ∧ Bel w w'
theorem lasts_two (w : World) (hT : Tb w) : Calls Tryd.prog 31 #[.int .i64 2] w (LastPost w [33, 69] 2) := by
  have HF := Lib.hid (final_yes 2 69 w hT (by omega) (by omega) (by decide))
  clear hT
  go_enter Tryd.func31, Tryd.ntmps31
  go_wp2_with (go_at_call 37; (with_reducible refine HF.out.mono ?_); rintro e w' ⟨rfl, rfl⟩)
  go_ret
  exact ⟨w.heap.size, _, rfl, (rd_lit (l := [33, 69]) rfl).here, (Bel.refl w).alloc _⟩
theorem lasts_is (k n : Nat) (l : List Int) (w : World) (hT : Tb w) (h0 : 1 ≤ k) (h1 : k ≤ 12) (hl : lastT.getD k [] = l) (hn : l.length = n) :
    Calls Tryd.prog 31 #[.int .i64 k] w (LastPost w l n) := by
  subst hl hn
  by_cases h2 : k = 2
  · subst h2
    exact lasts_two w hT
  · obtain ⟨z, hz, hl⟩ : ∃ z, lastB k = z ∧ lastT.getD k [] = [z] := by
      have : k = 1 ∨ k = 3 ∨ k = 4 ∨ k = 5 ∨ k = 6 ∨ k = 7 ∨ k = 8 ∨ k = 9 ∨ k = 10 ∨ k = 11 ∨ k = 12 := by omega
      rcases this with rfl | rfl | rfl | rfl | rfl | rfl | rfl | rfl | rfl | rfl | rfl <;> exact ⟨_, rfl, rfl⟩
    rw [hl]
    have HF := Lib.hid (final_yes k z w hT (by omega) (by omega) hz)
    have hq : ((k : Int) == 2) = false := by simp; omega
    clear hT hz hl h0 h1 h2
    go_enter Tryd.func31, Tryd.ntmps31
    go_wp2_with (go_at_call 37; (with_reducible refine HF.out.mono ?_); rintro e w' ⟨rfl, rfl⟩)
    go_ret
    exact ⟨w.heap.size, _, rfl, (rd_lit (l := [z]) rfl).here, (Bel.refl w).alloc _⟩
theorem lasts_fine (k : Nat) (h0 : 1 ≤ k) (h1 : k ≤ 12) : ∃ l n, lastT.getD k [] = l ∧ l.length = n ∧ 0 < n ∧ ∀ x ∈ l, 0 ≤ x ∧ x < 256 := by
  have : k = 1 ∨ k = 2 ∨ k = 3 ∨ k = 4 ∨ k = 5 ∨ k = 6 ∨ k = 7 ∨ k = 8 ∨ k = 9 ∨ k = 10 ∨ k = 11 ∨ k = 12 := by omega
  rcases this with rfl | rfl | rfl | rfl | rfl | rfl | rfl | rfl | rfl | rfl | rfl | rfl <;> exact ⟨_, _, rfl, rfl, by decide, by decide⟩

def AmRel (W : World) (rest : List Int) (last : Nat) (r : Nat × Nat) (i : Value) (w : World) : Prop := ∃ k : Nat, i = .int .i64 k ∧ 1 ≤ k ∧ k ≤ last + 1 ∧ amongL rest k (last + 1 - k) = r ∧ Bel W w
def AmPost (w : World) (r : Nat × Nat) (e : Ending) (w' : World) : Prop := e = .returned (.tuple #[.int .i64 r.1, .int .i64 r.2]) ∧ Bel w w'
set_option maxHeartbeats 1000000 in
theorem among_is (A : Option Addr) (n c first last : Nat) (rest : List Int) (r : Nat × Nat) (w : World) (hT : Tb w) (hA : Rd w w.heap.size .u8 A rest) (hn : rest.length = n) (hc : n ≤ c) (hb : ∀ x ∈ rest, 0 ≤ x ∧ x < 256)
    (h1 : 1 ≤ first) (h2 : first ≤ last + 1) (h3 : last ≤ 12) (hr : amongL rest first (last + 1 - first) = r) :
    Calls Tryd.prog 23 #[.slice A n c, .int .i64 first, .int .i64 last] w (AmPost w r) := by
  have HT := Lib.hid hT
  have HA := Lib.hid hA
  have HN := Lib.hid hn
  have HB := Lib.hid hb
  have HI : Hid (AmRel w rest last r (.int .i64 first) w) := Lib.hid ⟨first, rfl, h1, h2, hr, Bel.refl _⟩
  clear hT hA hn hb hr h1 h2
  go_enter Tryd.func23, Tryd.ntmps23
  go_wp2
  go_loopw [8] (fun i wr => AmRel w rest last r i wr) (fun i _ => last + 1 - (intOf i).toNat)
  case atStart => exact HI.out
  case round =>
    clear HI
    obtain ⟨k, rfl, hk1, hk2, hr, hbel⟩ := hrel
    by_cases hlt : k ≤ last
    · obtain ⟨l, m, hl, hm, hm0, bl⟩ := lasts_fine k hk1 (by omega)
      have HL := Lib.hid (lasts_is k m l wr (HT.out.bel hbel) hk1 (by omega) hl hm)
      have hstep : last + 1 - k = (last + 1 - (k + 1)) + 1 := by omega
      rw [hstep, amongL, hl, hm] at hr
      have q1 : (k : Int) ≤ (last : Int) := by omega
      have HBel := Lib.hid hbel
      obtain ⟨b, hb⟩ : ∃ b, l.isPrefixOf rest = b := ⟨_, rfl⟩
      rw [hb] at hr
      have HR := Lib.hid hr
      have HL2 := Lib.hid hb
      have HM := Lib.hid hm
      have BL := Lib.hid bl
      clear hr hl hb hm bl hbel hstep
      go_wp2_with fail
      with_reducible refine HL.out.mono ?_
      rintro e w2 ⟨g, cap, rfl, hrd, hb2⟩
      have HP := Lib.hid (prefix_is A g 0 n m c cap rest l b w2 ((HA.out.bel HBel.out).bel hb2).here hrd HN.out HM.out hm0 hc HB.out BL.out HL2.out)
      have HB2 := Lib.hid (HBel.out.trans hb2)
      clear hrd hb2
      go_wp2_with fail
      with_reducible refine HP.out.mono ?_
      rintro e w3 ⟨rfl, rfl⟩
      clear HP HL
      rcases b with _ | _
      · have HR' : Hid (amongL rest (k + 1) (last + 1 - (k + 1)) = r) := Lib.hid (by have := HR.out; rwa [if_neg (by simp)] at this)
        clear HR
        go_wp2
        go_roundw
        case rel => exact ⟨k + 1, by go_num, by omega, by omega, HR'.out, HB2.out⟩
        case measure => simp [intOf]; omega
      · have HR' : Hid ((k, m) = r) := Lib.hid (by have := HR.out; rwa [if_pos rfl] at this)
        clear HR
        go_wp2
        go_ret2
        exact ⟨by rw [← HR'.out]; rfl, HB2.out⟩
    · have HR' : Hid ((0, 0) = r) := Lib.hid (by rw [show last + 1 - k = 0 by omega, amongL] at hr; exact hr)
      have q1 : ¬ (k : Int) ≤ (last : Int) := by omega
      have HBel := Lib.hid hbel
      clear hr hbel
      go_wp2
      go_ret2
      exact ⟨by rw [← HR'.out]; rfl, HBel.out⟩

/-- The bytes of a constant text, as a row that bears the run-time's mark. -/
theorem rd_mark {w : World} {cs : Array Value} {l : List Int} {k : IntKind} {t : TypeId} {fr : Nat × Nat} (h : cs.toList = l.map (Value.int k)) : Rd (w.alloc (.cells cs t fr)) (w.alloc (.cells cs t fr)).heap.size k (some ⟨w.heap.size, 0, none⟩) l := fun i x hx => by
  refine ⟨w.heap.size, 0, rfl, by simp, ?_⟩
  have e : cs = (l.map (Value.int k)).toArray := by rw [← h]
  have h1 := World.cell?_alloc_mark w cs t fr i
  rw [Nat.zero_add]
  refine h1.trans ?_
  rw [e]
  simp [hx]
theorem among_any (A : Option Addr) (n c first last : Nat) (fi li : Int) (rest : List Int) (r : Nat × Nat) (w : World) (hf : (first : Int) = fi) (hl : (last : Int) = li) (hT : Tb w) (hA : Rd w w.heap.size .u8 A rest) (hn : rest.length = n) (hc : n ≤ c) (hb : ∀ x ∈ rest, 0 ≤ x ∧ x < 256)
    (h1 : 1 ≤ first) (h2 : first ≤ last + 1) (h3 : last ≤ 12) (hr : amongL rest first (last + 1 - first) = r) :
    Calls Tryd.prog 23 #[.slice A n c, .int .i64 fi, .int .i64 li] w (AmPost w r) := by
  subst hf hl
  exact among_is A n c first last rest r w hT hA hn hc hb h1 h2 h3 hr
theorem alone_rest (A : Option Addr) (n c : Nat) (rest : List Int) (r : Nat × Nat) (w : World) (hT : Tb w) (hA : Rd w w.heap.size .u8 A rest) (hn : rest.length = n) (hc : n ≤ c) (hb : ∀ x ∈ rest, 0 ≤ x ∧ x < 256)
    (hr : aloneL rest = r) : Calls Tryd.prog 24 #[.slice A n c] w (AmPost w r) := by
  unfold aloneL at hr
  obtain ⟨b, hp⟩ : ∃ b, [115].isPrefixOf rest = b := ⟨_, rfl⟩
  rw [hp] at hr
  have HT := Lib.hid hT
  have HA := Lib.hid hA
  have HN := Lib.hid hn
  have HB := Lib.hid hb
  have HR := Lib.hid hr
  have HP := Lib.hid hp
  have hrl : ∀ W : World, Rd (W.alloc (.cells #[.int .u8 115] 5 (1, 2))) ((W.alloc (.cells #[.int .u8 115] 5 (1, 2))).heap.size) .u8 (some ⟨W.heap.size, 0, none⟩) [115] := fun W => rd_mark (l := [115]) rfl
  have HRL := Lib.hid hrl
  have hcv := Lib.run_convert_bytes_const (P := Tryd.prog) w 22 5 #[.int .u8 115] 1 1 Tryd.underlying22 Tryd.underlying5
  clear hT hA hn hb hr hp hrl
  go_enter Tryd.func24, Tryd.ntmps24
  go_wp2_with fail
  with_reducible refine (prefix_is A w.heap.size 0 n 1 c 1 rest [115] b _ (HA.out.alloc _).here (HRL.out w) HN.out rfl (by omega) hc HB.out (by simp) HP.out).mono ?_
  rintro e w2 ⟨rfl, rfl⟩
  rcases b with _ | _
  · have HR' : Hid (amongL rest 10 (12 + 1 - 10) = r) := Lib.hid (by have := HR.out; rwa [if_neg (by simp)] at this)
    have HM := Lib.hid (among_any A n c 10 12 10 12 rest r (w.alloc (.cells #[.int .u8 115] 5 (1, 2))) rfl rfl (HT.out.bel ((Bel.refl w).alloc _)) (HA.out.alloc _).here HN.out hc HB.out (by omega) (by omega) (by omega) HR'.out)
    clear HR HR' HP
    go_wp2_with fail
    with_reducible refine HM.out.mono ?_
    rintro e w3 ⟨rfl, hb3⟩
    go_wp2
    go_ret2
    exact ⟨rfl, ((Bel.refl w).alloc _).trans hb3⟩
  · have HR' : Hid ((1, 1) = r) := Lib.hid (by have := HR.out; rwa [if_pos rfl] at this)
    clear HR HP
    go_wp2
    go_ret2
    exact ⟨by rw [← HR'.out]; rfl, (Bel.refl w).alloc _⟩

def TellPost (w : World) (r : Nat × Nat × Nat) (e : Ending) (w' : World) : Prop := e = .returned (.tuple #[.int .i64 r.1, .int .i64 r.2.1, .int .i64 r.2.2]) ∧ Bel w w'
theorem tell_not (hd rest : List Int) (h1 : ¬ hd = [41]) (h2 : ¬ hd = [45]) (h3 : ¬ hd = [40]) (h4 : ¬ hd = [44]) (h5 : ¬ hd = [36, 41]) (h6 : ¬ hd = [36, 45]) (h7 : ¬ hd = [36]) (h8 : ¬ hd = [36, 44]) (h9 : ¬ hd = []) :
    tellL hd rest = (0, 0, 0) := by
  unfold tellL
  rw [if_neg (by simp [h1, h2]), if_neg (by simp [h3, h4]), if_neg (by simp [h5, h6]), if_neg (by simp [h7, h8]), if_neg h9]
set_option maxHeartbeats 2000000 in
theorem tell_is (A H : Option Addr) (n c nh ch : Nat) (rest hd : List Int) (r : Nat × Nat × Nat) (w : World) (hT : Tb w) (hA : Rd w w.heap.size .u8 A rest) (hn : rest.length = n) (hc : n ≤ c) (hb : ∀ x ∈ rest, 0 ≤ x ∧ x < 256)
    (hcv : (convert 22 9 (.slice H nh ch)).run Tryd.prog w = .ok (.string (str hd)) w) (bh : ∀ x ∈ hd, 0 ≤ x ∧ x < 256) (hr : tellL hd rest = r) :
    Calls Tryd.prog 16 #[.slice H nh ch, .slice A n c] w (TellPost w r) := by
  have HR := Lib.hid hr
  clear hr
  have HM8 := Lib.hid (among_any A n c 1 8 1 8 rest _ w rfl rfl hT hA hn hc hb (by omega) (by omega) (by omega) rfl)
  have HM9 := Lib.hid (among_any A n c 9 9 9 9 rest _ w rfl rfl hT hA hn hc hb (by omega) (by omega) (by omega) rfl)
  have HAl := Lib.hid (alone_rest A n c rest _ w hT hA hn hc hb rfl)
  have tst : ∀ (L : List Int), (∀ x ∈ L, 0 ≤ x ∧ x < 256) → ((str hd).toList == (str L).toList) = decide (hd = L) := fun L hL => str_beq bh hL
  have t1 := tst [41] (by simp)
  have t2 := tst [45] (by simp)
  have t3 := tst [40] (by simp)
  have t4 := tst [44] (by simp)
  have t5 := tst [36, 41] (by simp)
  have t6 := tst [36, 45] (by simp)
  have t7 := tst [36] (by simp)
  have t8 := tst [36, 44] (by simp)
  have t9 := tst [] (by simp)
  have e1 : (str [41]).toList = [41] := by rw [ByteArray.toList_eq]; rfl
  have e2 : (str [45]).toList = [45] := by rw [ByteArray.toList_eq]; rfl
  have e3 : (str [40]).toList = [40] := by rw [ByteArray.toList_eq]; rfl
  have e4 : (str [44]).toList = [44] := by rw [ByteArray.toList_eq]; rfl
  have e5 : (str [36, 41]).toList = [36, 41] := by rw [ByteArray.toList_eq]; rfl
  have e6 : (str [36, 45]).toList = [36, 45] := by rw [ByteArray.toList_eq]; rfl
  have e7 : (str [36]).toList = [36] := by rw [ByteArray.toList_eq]; rfl
  have e8 : (str [36, 44]).toList = [36, 44] := by rw [ByteArray.toList_eq]; rfl
  have e9 : (str []).toList = [] := by rw [ByteArray.toList_eq]; rfl
  rw [e1] at t1
  rw [e2] at t2
  rw [e3] at t3
  rw [e4] at t4
  rw [e5] at t5
  rw [e6] at t6
  rw [e7] at t7
  rw [e8] at t8
  rw [e9] at t9
  clear e1 e2 e3 e4 e5 e6 e7 e8 e9 tst hT hA hn hc hb bh
  go_enter Tryd.func16, Tryd.ntmps16
  go_wp2_with fail
  · obtain rfl : r = (1, amongL rest 1 8) := by rw [← HR.out, show hd = [41] by assumption]; rfl
    with_reducible refine HM8.out.mono ?_
    rintro e w2 ⟨rfl, hb2⟩
    go_wp2
    refine bodyPost_ret (v := .tuple #[_, _, _]) (by simp [results, Tryd.results16, go_sem]) rfl ⟨rfl, hb2⟩
  · obtain rfl : r = (1, amongL rest 1 8) := by rw [← HR.out, show hd = [45] by assumption]; rfl
    with_reducible refine HM8.out.mono ?_
    rintro e w2 ⟨rfl, hb2⟩
    go_wp2
    refine bodyPost_ret (v := .tuple #[_, _, _]) (by simp [results, Tryd.results16, go_sem]) rfl ⟨rfl, hb2⟩
  · obtain rfl : r = (0, amongL rest 1 8) := by rw [← HR.out, show hd = [40] by assumption]; rfl
    with_reducible refine HM8.out.mono ?_
    rintro e w2 ⟨rfl, hb2⟩
    go_wp2
    refine bodyPost_ret (v := .tuple #[_, _, _]) (by simp [results, Tryd.results16, go_sem]) rfl ⟨rfl, hb2⟩
  · obtain rfl : r = (0, amongL rest 1 8) := by rw [← HR.out, show hd = [44] by assumption]; rfl
    with_reducible refine HM8.out.mono ?_
    rintro e w2 ⟨rfl, hb2⟩
    go_wp2
    refine bodyPost_ret (v := .tuple #[_, _, _]) (by simp [results, Tryd.results16, go_sem]) rfl ⟨rfl, hb2⟩
  · obtain rfl : r = (1, amongL rest 9 1) := by rw [← HR.out, show hd = [36, 41] by assumption]; rfl
    with_reducible refine HM9.out.mono ?_
    rintro e w2 ⟨rfl, hb2⟩
    go_wp2
    refine bodyPost_ret (v := .tuple #[_, _, _]) (by simp [results, Tryd.results16, go_sem]) rfl ⟨rfl, hb2⟩
  · obtain rfl : r = (1, amongL rest 9 1) := by rw [← HR.out, show hd = [36, 45] by assumption]; rfl
    with_reducible refine HM9.out.mono ?_
    rintro e w2 ⟨rfl, hb2⟩
    go_wp2
    refine bodyPost_ret (v := .tuple #[_, _, _]) (by simp [results, Tryd.results16, go_sem]) rfl ⟨rfl, hb2⟩
  · obtain rfl : r = (0, amongL rest 9 1) := by rw [← HR.out, show hd = [36] by assumption]; rfl
    with_reducible refine HM9.out.mono ?_
    rintro e w2 ⟨rfl, hb2⟩
    go_wp2
    refine bodyPost_ret (v := .tuple #[_, _, _]) (by simp [results, Tryd.results16, go_sem]) rfl ⟨rfl, hb2⟩
  · obtain rfl : r = (0, amongL rest 9 1) := by rw [← HR.out, show hd = [36, 44] by assumption]; rfl
    with_reducible refine HM9.out.mono ?_
    rintro e w2 ⟨rfl, hb2⟩
    go_wp2
    refine bodyPost_ret (v := .tuple #[_, _, _]) (by simp [results, Tryd.results16, go_sem]) rfl ⟨rfl, hb2⟩
  · obtain rfl : r = (0, aloneL rest) := by rw [← HR.out, show hd = [] by assumption]; rfl
    with_reducible refine HAl.out.mono ?_
    rintro e w2 ⟨rfl, hb2⟩
    go_wp2
    refine bodyPost_ret (v := .tuple #[_, _, _]) (by simp [results, Tryd.results16, go_sem]) rfl ⟨rfl, hb2⟩
  · obtain rfl : r = (0, 0, 0) := by rw [← HR.out, tell_not hd rest (by assumption) (by assumption) (by assumption) (by assumption) (by assumption) (by assumption) (by assumption) (by assumption) (by assumption)]
    refine bodyPost_ret (v := .tuple #[_, _, _]) (by simp [results, Tryd.results16, go_sem]) rfl ⟨rfl, Bel.refl w⟩
end Go.Proofs.YthdggdjaicfapaaDoor.U
