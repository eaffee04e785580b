/- What utf.add answers: the bytes of a scalar behind those that were there. The scalar must be one; the row is the call's own. -/
import Derived.Test.YtambempcicakgaaLeaf
import Derived.Test.YtambempcicakgaaBits
import Derived.Deep.AppendLies
import Derived.Deep.RegionLaw
import Derived.Deep.DrawnRows
import Derived.Lib.Hide
namespace Go.Proofs.Ytambempcicakgaa.U
open Go.RowKit
attribute [local go_sem ↓] Go.wp_at_zero Go.wp_at_succ

theorem info5 : (Try.prog.info? 5).map (fun i => (i.zero, i.size, i.bytes)) = some (some (.int .u8 0), 1, 1) := by kernel_rfl

/-- Numbers as a row's cells. -/
def cs8 (l : List Int) : List Value := l.map (Value.int .u8)
theorem cs8_append (a b : List Int) : cs8 (a ++ b) = cs8 a ++ cs8 b := by simp [cs8]
theorem cs8_length (a : List Int) : (cs8 a).length = a.length := by simp [cs8]

/-- The call's own row of bytes, in a world that is as it was below 'base'. -/
def Mine (base : Nat) (w0 : World) (v : Value) (l : List Int) (w : World) : Prop :=
  w.ownsRow base 5 1 v l.length (cs8 l) ∧ Below base w0 w ∧ base ≤ w.heap.size

theorem Mine.push {base : Nat} {w0 w w1 : World} {o : Obj} {v : Value} {l : List Int} {x : Int} {g cap : Nat} (h : Mine base w0 v l w)
    (hown : w1.ownsRow base 5 1 (.slice (some ⟨g, 0, none⟩) (l.length + 1) cap) (l.length + 1) (cs8 l ++ [.int .u8 x]))
    (hg : (w.alloc o).drew.grownBy w1 v.ownBlock) : Mine base w0 (.slice (some ⟨g, 0, none⟩) (l.length + 1) cap) (l ++ [x]) w1 := by
  obtain ⟨ho, hb, hs⟩ := h
  have hsz : w.heap.size + 1 ≤ w1.heap.size := by have := hg.size; simpa using this
  refine ⟨by simpa [cs8] using hown, ?_, by omega⟩
  exact ((hb.alloc hs o).drew).grown hg (by simp; omega) fun k hk => (ho.lt k hk).1

theorem Mine.push' {base : Nat} {w0 w w1 : World} {o : Obj} {v : Value} {l : List Int} {x : Int} {g cap : Nat} (h : Mine base w0 v l w)
    (hown : w1.ownsRow base 5 1 (.slice (some ⟨g, 0, none⟩) (l.length + 1) cap) (l.length + 1) (cs8 l ++ [.int .u8 x]))
    (hg : (w.alloc o).grownBy w1 v.ownBlock) : Mine base w0 (.slice (some ⟨g, 0, none⟩) (l.length + 1) cap) (l ++ [x]) w1 := by
  obtain ⟨ho, hb, hs⟩ := h
  have hsz : w.heap.size + 1 ≤ w1.heap.size := by have := hg.size; simpa using this
  refine ⟨by simpa [cs8] using hown, ?_, by omega⟩
  exact (hb.alloc hs o).grown hg (by simp; omega) fun k hk => (ho.lt k hk).1

/-- What the loop of 'add' keeps: so many bits are left, and so many bytes. -/
def AddRel (base : Nat) (w0 : World) (xs : List Int) (r : Int) (b sh : Value) (w : World) : Prop :=
  ∃ (s : Int) (ys : List Int), sh = .int .i64 s ∧ Mine base w0 b ys w ∧ ys.length ≤ xs.length + 4 ∧
    ((s = 0 ∧ ys = xs ++ enc1 r) ∨ (s = 6 ∧ ys ++ tl r 1 = xs ++ enc1 r) ∨ (s = 12 ∧ ys ++ tl r 2 = xs ++ enc1 r) ∨ (s = 18 ∧ ys ++ tl r 3 = xs ++ enc1 r))

def Adds (base : Nat) (w0 : World) (l : List Int) (e : Ending) (w : World) : Prop := ∃ v, e = .returned v ∧ Mine base w0 v l w

theorem byte_mid (x : Int) : bits .or .u8 128 (bits .and .u8 (IntKind.u8.wrap x) 63) = 128 + x % 64 := by
  rw [IntKind.wrap_u8', and63 (by omega) (by omega), or128 (by omega) (by omega)]; omega





theorem first_byte1 {r : Int} (hs : scB r = true) (hl : ln r = 1) : bits .or .u8 0 (IntKind.u8.wrap (r)) = r := by
  rcases enc_cases hs with ⟨a, b, c, _⟩ | ⟨a, b, c, _⟩ | ⟨a, b, c, _⟩ | ⟨a, b, c, _⟩ <;> first | (exfalso; omega) | skip
  rw [IntKind.wrap_u8', or0 (by omega) (by omega)]; omega

set_option maxHeartbeats 1000000 in
theorem add_1 (r : Int) (w : World) (base : Nat) (v : Value) (xs : List Int) (hs : scB r = true) (hl : ln r = 1) (hm : Mine base w v xs w) (hn : xs.length ≤ 65536) :
    Calls Try.prog 23 #[v, .int .i32 r] w (Adds base w (xs ++ enc1 r)) := by
  obtain ⟨i0, hi0, hz0, hz1, hz2⟩ := info_parts info5
  have hr := scB_true.1 hs
  have hb := hm.2.2
  have hx := first_byte1 hs hl
  have HX := Lib.hid hx
  clear hx
  go_enter Try.func23, Try.ntmps23
  go_wp2_with (go_at_call 19; (with_reducible refine (len_is _ 1 _ (by omega)).mono ?_); rintro e w' ⟨rfl, rfl⟩)
  go_region_law (first
    | (refine step_append_lies _ (by rfl) (.tmp 12) (.tmp 20) 22 (by rfl) base 5 i0 (.int .u8 0) 1 1 Try.underlying22 hi0 hz0 hz1 hz2 rfl (by omega) v xs.length (cs8 xs) (by rfl) (by exact hm.1.alloc _) _ 1 1 [_] (by rfl) rfl (by exact World.news_of_block (heap_alloc_new _ _)) (by simp [Value.oneCell']) (by omega) (by simp only [maxLen]; omega) (by omega) (by simp; omega) _ rfl ?_; intro g cap w1 hown1 hgrow hat hlt)
    | (go_simp; go_at_call 26; (with_reducible refine (head_is _ 0 _ hd1).mono ?_); rintro e w' ⟨rfl, rfl⟩))
  have M1 := hm.push hown1 hgrow
  rw [HX.out] at M1
  clear hown1 hgrow hat hlt HX
  go_wp2
  go_simp
  generalize Value.int IntKind.u8 (bits BinOp.or IntKind.u8 0 (IntKind.u8.wrap (r))) = q19
  generalize Value.int IntKind.u8 (IntKind.u8.wrap (r)) = q18
  go_loopw [0, 6] (fun b sh wr => AddRel base w xs r b sh wr) (fun _ sh _ => (intOf sh).toNat)
  case atStart => exact ⟨_, _, rfl, M1, by simp, .inl ⟨rfl, by rw [enc_1 hl]⟩⟩
  case round =>
    obtain ⟨s, ys, rfl, hM, hyl, hk⟩ := hrel
    have hbr := hM.2.2
    rcases hk with ⟨rfl, rfl⟩ | ⟨rfl, hk⟩ | ⟨rfl, hk⟩ | ⟨rfl, hk⟩
    · go_wp2
      go_ret
      exact ⟨_, rfl, hM⟩
    all_goals
      have HK := Lib.hid hk
      clear hk
      go_wp2_with (at_builtin; refine wpList_append_lies _ rfl (.tmp 26) (.tmp 33) 22 rfl base 5 i0 (.int .u8 0) 1 1 Try.underlying22 hi0 hz0 hz1 hz2 rfl (by omega) _ ys.length (cs8 ys) rfl (hM.1.alloc _) ⟨wr.heap.size, 0, none⟩ 1 1 [_] rfl rfl (World.news_of_block (heap_alloc_new _ _)) (by simp [Value.oneCell']) (by omega) (by simp only [maxLen]; omega) (by omega) (by simp; omega) _ rfl ?_; intro g2 cap2 w2 hown2 hgrow2 hat2 hlt2)
      have M2 := hM.push' hown2 hgrow2
      have hle : ys.length + 1 ≤ xs.length + 4 := by
        have h1 := congrArg List.length HK.out
        have h2 := ln_le r
        simp [tl, enc_length] at h1
        omega
      clear hown2 hgrow2 hat2 hlt2 hM M1 hbr
      try go_wp2
      go_roundw
      case rel => exact ⟨_, _, rfl, M2, by simpa using hle, by first | exact .inl ⟨rfl, HK.out⟩ | exact .inr (.inl ⟨rfl, by rw [List.append_assoc]; exact HK.out⟩) | exact .inr (.inr (.inl ⟨rfl, by rw [List.append_assoc]; exact HK.out⟩))⟩
      case measure => simp [intOf]

theorem first_byte2 {r : Int} (hs : scB r = true) (hl : ln r = 2) : bits .or .u8 192 (IntKind.u8.wrap (r / 64)) = 192 + r / 64 := by
  rcases enc_cases hs with ⟨a, b, c, _⟩ | ⟨a, b, c, _⟩ | ⟨a, b, c, _⟩ | ⟨a, b, c, _⟩ <;> first | (exfalso; omega) | skip
  rw [IntKind.wrap_u8', or192 (by omega) (by omega)]; omega

set_option maxHeartbeats 1000000 in
theorem add_2 (r : Int) (w : World) (base : Nat) (v : Value) (xs : List Int) (hs : scB r = true) (hl : ln r = 2) (hm : Mine base w v xs w) (hn : xs.length ≤ 65536) :
    Calls Try.prog 23 #[v, .int .i32 r] w (Adds base w (xs ++ enc1 r)) := by
  obtain ⟨i0, hi0, hz0, hz1, hz2⟩ := info_parts info5
  have hr := scB_true.1 hs
  have hb := hm.2.2
  have hx := first_byte2 hs hl
  have HX := Lib.hid hx
  clear hx
  go_enter Try.func23, Try.ntmps23
  go_wp2_with (go_at_call 19; (with_reducible refine (len_is _ 2 _ (by omega)).mono ?_); rintro e w' ⟨rfl, rfl⟩)
  go_region_law (first
    | (refine step_append_lies _ (by rfl) (.tmp 12) (.tmp 20) 22 (by rfl) base 5 i0 (.int .u8 0) 1 1 Try.underlying22 hi0 hz0 hz1 hz2 rfl (by omega) v xs.length (cs8 xs) (by rfl) (by exact hm.1.alloc _) _ 1 1 [_] (by rfl) rfl (by exact World.news_of_block (heap_alloc_new _ _)) (by simp [Value.oneCell']) (by omega) (by simp only [maxLen]; omega) (by omega) (by simp; omega) _ rfl ?_; intro g cap w1 hown1 hgrow hat hlt)
    | (go_simp; go_at_call 26; (with_reducible refine (head_is _ 192 _ hd2).mono ?_); rintro e w' ⟨rfl, rfl⟩))
  have M1 := hm.push hown1 hgrow
  rw [HX.out] at M1
  clear hown1 hgrow hat hlt HX
  go_wp2
  go_simp
  generalize Value.int IntKind.u8 (bits BinOp.or IntKind.u8 192 (IntKind.u8.wrap (r / 64))) = q19
  generalize Value.int IntKind.u8 (IntKind.u8.wrap (r / 64)) = q18
  go_loopw [0, 6] (fun b sh wr => AddRel base w xs r b sh wr) (fun _ sh _ => (intOf sh).toNat)
  case atStart => exact ⟨_, _, rfl, M1, by simp, .inr (.inl ⟨rfl, by rw [enc_2 hl]; simp [tl]⟩)⟩
  case round =>
    obtain ⟨s, ys, rfl, hM, hyl, hk⟩ := hrel
    have hbr := hM.2.2
    rcases hk with ⟨rfl, rfl⟩ | ⟨rfl, hk⟩ | ⟨rfl, hk⟩ | ⟨rfl, hk⟩
    · go_wp2
      go_ret
      exact ⟨_, rfl, hM⟩
    all_goals
      have HK := Lib.hid hk
      clear hk
      go_wp2_with (at_builtin; refine wpList_append_lies _ rfl (.tmp 26) (.tmp 33) 22 rfl base 5 i0 (.int .u8 0) 1 1 Try.underlying22 hi0 hz0 hz1 hz2 rfl (by omega) _ ys.length (cs8 ys) rfl (hM.1.alloc _) ⟨wr.heap.size, 0, none⟩ 1 1 [_] rfl rfl (World.news_of_block (heap_alloc_new _ _)) (by simp [Value.oneCell']) (by omega) (by simp only [maxLen]; omega) (by omega) (by simp; omega) _ rfl ?_; intro g2 cap2 w2 hown2 hgrow2 hat2 hlt2)
      have M2 := hM.push' hown2 hgrow2
      have hle : ys.length + 1 ≤ xs.length + 4 := by
        have h1 := congrArg List.length HK.out
        have h2 := ln_le r
        simp [tl, enc_length] at h1
        omega
      clear hown2 hgrow2 hat2 hlt2 hM M1 hbr
      try go_wp2
      go_roundw
      case rel => exact ⟨_, _, rfl, M2, by simpa using hle, by first | exact .inl ⟨rfl, HK.out⟩ | exact .inr (.inl ⟨rfl, by rw [List.append_assoc]; exact HK.out⟩) | exact .inr (.inr (.inl ⟨rfl, by rw [List.append_assoc]; exact HK.out⟩))⟩
      case measure => simp [intOf]

theorem first_byte3 {r : Int} (hs : scB r = true) (hl : ln r = 3) : bits .or .u8 224 (IntKind.u8.wrap (r / 4096)) = 224 + r / 4096 := by
  rcases enc_cases hs with ⟨a, b, c, _⟩ | ⟨a, b, c, _⟩ | ⟨a, b, c, _⟩ | ⟨a, b, c, _⟩ <;> first | (exfalso; omega) | skip
  rw [IntKind.wrap_u8', or224 (by omega) (by omega)]; omega

set_option maxHeartbeats 1000000 in
theorem add_3 (r : Int) (w : World) (base : Nat) (v : Value) (xs : List Int) (hs : scB r = true) (hl : ln r = 3) (hm : Mine base w v xs w) (hn : xs.length ≤ 65536) :
    Calls Try.prog 23 #[v, .int .i32 r] w (Adds base w (xs ++ enc1 r)) := by
  obtain ⟨i0, hi0, hz0, hz1, hz2⟩ := info_parts info5
  have hr := scB_true.1 hs
  have hb := hm.2.2
  have hx := first_byte3 hs hl
  have HX := Lib.hid hx
  clear hx
  go_enter Try.func23, Try.ntmps23
  go_wp2_with (go_at_call 19; (with_reducible refine (len_is _ 3 _ (by omega)).mono ?_); rintro e w' ⟨rfl, rfl⟩)
  go_region_law (first
    | (refine step_append_lies _ (by rfl) (.tmp 12) (.tmp 20) 22 (by rfl) base 5 i0 (.int .u8 0) 1 1 Try.underlying22 hi0 hz0 hz1 hz2 rfl (by omega) v xs.length (cs8 xs) (by rfl) (by exact hm.1.alloc _) _ 1 1 [_] (by rfl) rfl (by exact World.news_of_block (heap_alloc_new _ _)) (by simp [Value.oneCell']) (by omega) (by simp only [maxLen]; omega) (by omega) (by simp; omega) _ rfl ?_; intro g cap w1 hown1 hgrow hat hlt)
    | (go_simp; go_at_call 26; (with_reducible refine (head_is _ 224 _ hd3).mono ?_); rintro e w' ⟨rfl, rfl⟩))
  have M1 := hm.push hown1 hgrow
  rw [HX.out] at M1
  clear hown1 hgrow hat hlt HX
  go_wp2
  go_simp
  generalize Value.int IntKind.u8 (bits BinOp.or IntKind.u8 224 (IntKind.u8.wrap (r / 4096))) = q19
  generalize Value.int IntKind.u8 (IntKind.u8.wrap (r / 4096)) = q18
  go_loopw [0, 6] (fun b sh wr => AddRel base w xs r b sh wr) (fun _ sh _ => (intOf sh).toNat)
  case atStart => exact ⟨_, _, rfl, M1, by simp, .inr (.inr (.inl ⟨rfl, by rw [enc_3 hl]; simp [tl]⟩))⟩
  case round =>
    obtain ⟨s, ys, rfl, hM, hyl, hk⟩ := hrel
    have hbr := hM.2.2
    rcases hk with ⟨rfl, rfl⟩ | ⟨rfl, hk⟩ | ⟨rfl, hk⟩ | ⟨rfl, hk⟩
    · go_wp2
      go_ret
      exact ⟨_, rfl, hM⟩
    all_goals
      have HK := Lib.hid hk
      clear hk
      go_wp2_with (at_builtin; refine wpList_append_lies _ rfl (.tmp 26) (.tmp 33) 22 rfl base 5 i0 (.int .u8 0) 1 1 Try.underlying22 hi0 hz0 hz1 hz2 rfl (by omega) _ ys.length (cs8 ys) rfl (hM.1.alloc _) ⟨wr.heap.size, 0, none⟩ 1 1 [_] rfl rfl (World.news_of_block (heap_alloc_new _ _)) (by simp [Value.oneCell']) (by omega) (by simp only [maxLen]; omega) (by omega) (by simp; omega) _ rfl ?_; intro g2 cap2 w2 hown2 hgrow2 hat2 hlt2)
      have M2 := hM.push' hown2 hgrow2
      have hle : ys.length + 1 ≤ xs.length + 4 := by
        have h1 := congrArg List.length HK.out
        have h2 := ln_le r
        simp [tl, enc_length] at h1
        omega
      clear hown2 hgrow2 hat2 hlt2 hM M1 hbr
      try go_wp2
      go_roundw
      case rel => exact ⟨_, _, rfl, M2, by simpa using hle, by first | exact .inl ⟨rfl, HK.out⟩ | exact .inr (.inl ⟨rfl, by rw [List.append_assoc]; exact HK.out⟩) | exact .inr (.inr (.inl ⟨rfl, by rw [List.append_assoc]; exact HK.out⟩))⟩
      case measure => simp [intOf]

theorem first_byte4 {r : Int} (hs : scB r = true) (hl : ln r = 4) : bits .or .u8 240 (IntKind.u8.wrap (r / 262144)) = 240 + r / 262144 := by
  rcases enc_cases hs with ⟨a, b, c, _⟩ | ⟨a, b, c, _⟩ | ⟨a, b, c, _⟩ | ⟨a, b, c, _⟩ <;> first | (exfalso; omega) | skip
  rw [IntKind.wrap_u8', or240 (by omega) (by omega)]; omega

set_option maxHeartbeats 1000000 in
theorem add_4 (r : Int) (w : World) (base : Nat) (v : Value) (xs : List Int) (hs : scB r = true) (hl : ln r = 4) (hm : Mine base w v xs w) (hn : xs.length ≤ 65536) :
    Calls Try.prog 23 #[v, .int .i32 r] w (Adds base w (xs ++ enc1 r)) := by
  obtain ⟨i0, hi0, hz0, hz1, hz2⟩ := info_parts info5
  have hr := scB_true.1 hs
  have hb := hm.2.2
  have hx := first_byte4 hs hl
  have HX := Lib.hid hx
  clear hx
  go_enter Try.func23, Try.ntmps23
  go_wp2_with (go_at_call 19; (with_reducible refine (len_is _ 4 _ (by omega)).mono ?_); rintro e w' ⟨rfl, rfl⟩)
  go_region_law (first
    | (refine step_append_lies _ (by rfl) (.tmp 12) (.tmp 20) 22 (by rfl) base 5 i0 (.int .u8 0) 1 1 Try.underlying22 hi0 hz0 hz1 hz2 rfl (by omega) v xs.length (cs8 xs) (by rfl) (by exact hm.1.alloc _) _ 1 1 [_] (by rfl) rfl (by exact World.news_of_block (heap_alloc_new _ _)) (by simp [Value.oneCell']) (by omega) (by simp only [maxLen]; omega) (by omega) (by simp; omega) _ rfl ?_; intro g cap w1 hown1 hgrow hat hlt)
    | (go_simp; go_at_call 26; (with_reducible refine (head_is _ 240 _ hd4).mono ?_); rintro e w' ⟨rfl, rfl⟩))
  have M1 := hm.push hown1 hgrow
  rw [HX.out] at M1
  clear hown1 hgrow hat hlt HX
  go_wp2
  go_simp
  generalize Value.int IntKind.u8 (bits BinOp.or IntKind.u8 240 (IntKind.u8.wrap (r / 262144))) = q19
  generalize Value.int IntKind.u8 (IntKind.u8.wrap (r / 262144)) = q18
  go_loopw [0, 6] (fun b sh wr => AddRel base w xs r b sh wr) (fun _ sh _ => (intOf sh).toNat)
  case atStart => exact ⟨_, _, rfl, M1, by simp, .inr (.inr (.inr ⟨rfl, by rw [enc_4 hl]; simp [tl]⟩))⟩
  case round =>
    obtain ⟨s, ys, rfl, hM, hyl, hk⟩ := hrel
    have hbr := hM.2.2
    rcases hk with ⟨rfl, rfl⟩ | ⟨rfl, hk⟩ | ⟨rfl, hk⟩ | ⟨rfl, hk⟩
    · go_wp2
      go_ret
      exact ⟨_, rfl, hM⟩
    all_goals
      have HK := Lib.hid hk
      clear hk
      go_wp2_with (at_builtin; refine wpList_append_lies _ rfl (.tmp 26) (.tmp 33) 22 rfl base 5 i0 (.int .u8 0) 1 1 Try.underlying22 hi0 hz0 hz1 hz2 rfl (by omega) _ ys.length (cs8 ys) rfl (hM.1.alloc _) ⟨wr.heap.size, 0, none⟩ 1 1 [_] rfl rfl (World.news_of_block (heap_alloc_new _ _)) (by simp [Value.oneCell']) (by omega) (by simp only [maxLen]; omega) (by omega) (by simp; omega) _ rfl ?_; intro g2 cap2 w2 hown2 hgrow2 hat2 hlt2)
      have M2 := hM.push' hown2 hgrow2
      have hle : ys.length + 1 ≤ xs.length + 4 := by
        have h1 := congrArg List.length HK.out
        have h2 := ln_le r
        simp [tl, enc_length] at h1
        omega
      clear hown2 hgrow2 hat2 hlt2 hM M1 hbr
      try go_wp2
      go_roundw
      case rel => exact ⟨_, _, rfl, M2, by simpa using hle, by first | exact .inl ⟨rfl, HK.out⟩ | exact .inr (.inl ⟨rfl, by rw [List.append_assoc]; exact HK.out⟩) | exact .inr (.inr (.inl ⟨rfl, by rw [List.append_assoc]; exact HK.out⟩))⟩
      case measure => simp [intOf]

theorem add_any (r : Int) (w : World) (base : Nat) (v : Value) (xs : List Int) (hs : scB r = true) (hm : Mine base w v xs w) (hn : xs.length ≤ 65536) :
    Calls Try.prog 23 #[v, .int .i32 r] w (Adds base w (xs ++ enc1 r)) := by
  rcases enc_cases hs with ⟨_, _, c, _⟩ | ⟨_, _, c, _⟩ | ⟨_, _, c, _⟩ | ⟨_, _, c, _⟩
  · exact add_1 r w base v xs hs c hm hn
  · exact add_2 r w base v xs hs c hm hn
  · exact add_3 r w base v xs hs c hm hn
  · exact add_4 r w base v xs hs c hm hn

end Go.Proofs.Ytambempcicakgaa.U
