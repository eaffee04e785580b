/- What ncr.Print answers: a scalar's reference, false of what is none; what 'answers' answers: true. The library's table of trailing zeros must hold what it holds. -/
import Derived.Test.YtfggeofknmdmfaaDoorFormat
import Derived.Test.YtfggeofknmdmfaaDoorShelf
namespace Go.Proofs.YtfggeofknmdmfaaDoor.U
open Go.RowKit
set_option linter.unusedVariables false

def up (x : Int) : Int := if 97 ≤ x ∧ x ≤ 122 then x - 32 else x
theorem up_hl {d : Int} (h0 : 0 ≤ d) (h1 : d < 16) : up (hl d) = hx d := by
  unfold up hl hx
  by_cases h : d < 10
  · rw [if_pos h, if_pos h, if_neg (by omega)]
  · rw [if_neg h, if_neg h, if_pos (by omega)]; omega
theorem upperB_of {x : Int} (h0 : 0 ≤ x) (h1 : x < 128) : Lib.upperB (UInt8.ofNat x.toNat) = UInt8.ofNat (up x).toNat := by
  obtain ⟨n, rfl⟩ : ∃ n : Nat, x = n := ⟨x.toNat, by omega⟩
  have key : ∀ n : Fin 128, Lib.upperB (UInt8.ofNat n.val) = UInt8.ofNat (up (n.val : Int)).toNat := by decide +kernel
  exact key ⟨n, by omega⟩
theorem upper_str {l : List Int} (h : Asc l) : (⟨(Lib.toUpperA (str l).data.toList).toArray⟩ : ByteArray) = str (l.map up) := by
  unfold Lib.toUpperA str bs
  congr 1
  simp only [List.map_map]
  congr 1
  apply List.map_congr_left
  intro x hx
  have := h x hx
  exact upperB_of this.1 this.2

/-- The digits that are written, and the noughts ahead of them. -/
theorem print_math {r u : Int} {ds : List Int} (hs : scB r = true) (h : Low r ds u) (hu : u < 16) : ∃ k, ((hl u :: ds).map up).length = k ∧ 1 ≤ k ∧ k ≤ 6 ∧ refL r = [38, 35, 120] ++ List.replicate (4 - k) 48 ++ (hl u :: ds).map up ++ [59] := by
  have hr := scB_true.1 hs
  rw [ref_yes hs]
  have z : hx 0 = 48 := by decide
  rcases h with ⟨rfl, rfl⟩ | ⟨rfl, rfl, _⟩ | ⟨rfl, rfl, _⟩ | ⟨rfl, rfl, _⟩ | ⟨rfl, rfl, _⟩ | ⟨rfl, rfl, _⟩
  · refine ⟨1, rfl, by omega, by omega, ?_⟩
    simp only [List.map_cons, List.map_nil]
    rw [up_hl (by omega) (by omega)]
    unfold dg
    rw [if_pos (by omega), show u / 4096 = 0 by omega, show u / 256 % 16 = 0 by omega, show u / 16 % 16 = 0 by omega, show u % 16 = u by omega, z]
    rfl
  · refine ⟨2, rfl, by omega, by omega, ?_⟩
    simp only [List.map_cons, List.map_nil]
    rw [up_hl (by omega) (by omega), up_hl (by omega) (by omega)]
    unfold dg
    rw [if_pos (by omega), show r / 4096 = 0 by omega, show r / 256 % 16 = 0 by omega, show r / 16 % 16 = r / 16 by omega, z]
    rfl
  · refine ⟨3, rfl, by omega, by omega, ?_⟩
    simp only [List.map_cons, List.map_nil]
    rw [up_hl (by omega) (by omega), up_hl (by omega) (by omega), up_hl (by omega) (by omega)]
    unfold dg
    rw [if_pos (by omega), show r / 4096 = 0 by omega, show r / 256 % 16 = r / 256 by omega, z]
    rfl
  · refine ⟨4, rfl, by omega, by omega, ?_⟩
    simp only [List.map_cons, List.map_nil]
    rw [up_hl (by omega) (by omega), up_hl (by omega) (by omega), up_hl (by omega) (by omega), up_hl (by omega) (by omega)]
    unfold dg
    rw [if_pos (by omega)]
    rfl
  · refine ⟨5, rfl, by omega, by omega, ?_⟩
    simp only [List.map_cons, List.map_nil]
    rw [up_hl (by omega) (by omega), up_hl (by omega) (by omega), up_hl (by omega) (by omega), up_hl (by omega) (by omega), up_hl (by omega) (by omega)]
    unfold dg
    rw [if_neg (by omega), if_pos (by omega)]
    rfl
  · refine ⟨6, rfl, by omega, by omega, ?_⟩
    simp only [List.map_cons, List.map_nil]
    rw [up_hl (by omega) (by omega), up_hl (by omega) (by omega), up_hl (by omega) (by omega), up_hl (by omega) (by omega), up_hl (by omega) (by omega), up_hl (by omega) (by omega)]
    unfold dg
    rw [if_neg (by omega), if_neg (by omega)]
    rfl

def PrintPost (w : World) (r : Int) (b : Bool) (e : Ending) (w' : World) : Prop := ∃ v, e = .returned (.tuple #[v, .bool b]) ∧ Own w' w.heap.size 5 .u8 v (refL r) ∧ Bel w w'
def PadRel (W : World) (k : Nat) (b i : Value) (w : World) : Prop := ∃ j : Nat, i = .int .i64 j ∧ j ≤ 4 - k ∧ Hid (Ext w W.heap.size 5 .u8 b ([38, 35, 120] ++ List.replicate j 48)) ∧ Bel W w

theorem str_up_asc {l : List Int} (h : Asc l) : ∀ x ∈ l.map up, 0 ≤ x ∧ x < 128 := fun x hx => by
  obtain ⟨y, hy, rfl⟩ := List.mem_map.1 hx
  have := h y hy
  unfold up
  split <;> omega

set_option maxRecDepth 100000 in
set_option maxHeartbeats 2000000 in
theorem print_any (r : Int) (b : Bool) (w : World) (h : Tz w) (hb : scB r = b) : Calls Tryd.prog 9 #[.int .i32 r] w (PrintPost w r b) := by
  obtain ⟨i0, hi0, hz0, hz1, hz2⟩ := info_parts info5
  have kc := fun (w : World) (C : Array Value) (n c : Nat) => Lib.run_convert_bytes_const (P := Tryd.prog) w 24 5 C n c Tryd.underlying24 Tryd.underlying5
  rcases b with _ | _
  · go_enter Tryd.func9, Tryd.ntmps9
    go_wp2_with (go_at_call 20; (with_reducible refine (scalar_is _ false _ hb).mono ?_); rintro e w' ⟨rfl, rfl⟩)
    go_ret2
    exact ⟨_, rfl, by rw [ref_no hb]; exact Own.nil _ _ _ _, Bel.refl _⟩
  · obtain ⟨r0, r1, _⟩ := scB_true.1 hb
    have HT := Lib.hid h
    clear h
    go_enter Tryd.func9, Tryd.ntmps9
    go_wp2_with (first
      | (go_at_call 20; (with_reducible refine (scalar_is _ true _ hb).mono ?_); rintro e w' ⟨rfl, rfl⟩)
      | fail)
    refine (formatInt_any r w HT.out r0 (by omega)).mono ?_
    rintro e w1 ⟨ds, u, rfl, hL, hu, hb1⟩
    have hA : Asc (hl u :: ds) := fun x hx => by
      rcases List.mem_cons.1 hx with rfl | hx
      · have := (low_range r0 (by omega) hL).2.1
        have := hl_range this hu
        omega
      · exact low_bytes r0 hL x hx
    obtain ⟨k, hk, hk1, hk6, href⟩ := print_math hb hL hu
    have hD := str_up_asc hA
    have HU := Lib.hid (fun w => toUpper_ascii (str (hl u :: ds)) w (by rw [str_size]; have := (low_range r0 (by omega) hL).1; simp; omega) (fun j b hj => by
      have : b ∈ bs (hl u :: ds) := List.mem_of_getElem? hj
      obtain ⟨y, hy, rfl⟩ := List.mem_map.1 this
      have := hA y hy
      rw [toNat_of this.1 (by omega)]; omega))
    rw [upper_str hA] at HU
    generalize (hl u :: ds).map up = D at hk href hD HU
    generalize str (hl u :: ds) = S0 at HU ⊢
    have hsz : (str D).size = k := by rw [str_size, hk]
    have HR := Lib.hid href
    have HK := Lib.hid hk
    have HD := Lib.hid hD
    clear hL hu hA href hk hD
    go_wp2_with (go_at_call 21; (with_reducible refine (HU.out _).mono ?_); rintro e w2 ⟨rfl, hb2⟩)
    have hbw2 : Bel w w2 := hb1.trans hb2
    have hsz2 := Below.size hbw2
    have HE0 : Hid (Ext (w2.alloc (.cells #[.int .u8 38, .int .u8 35, .int .u8 120] 5 (3, 4))) w.heap.size 5 .u8 (.slice (some ⟨w2.heap.size, 0, none⟩) 3 3) ([38, 35, 120] ++ List.replicate 0 48)) :=
      Lib.hid (.inr ⟨w2.heap.size, 0, rfl, (rd_mark (l := [38, 35, 120]) rfl).here⟩)
    have HB0 := Lib.hid (hbw2.alloc (.cells #[.int .u8 38, .int .u8 35, .int .u8 120] 5 (3, 4)))
    go_loopw [5, 18] (fun b i wr => PadRel w k b i wr) (fun _ i _ => 4 - k - (intOf i).toNat)
    case atStart => exact ⟨0, rfl, Nat.zero_le _, HE0, HB0.out⟩
    case round =>
      obtain ⟨j, rfl, hj, HE, hb3⟩ := hrel
      have hsz3 := Below.size hb3
      by_cases hlt : j < 4 - k
      · have q1 : (j : Int) < 4 - (k : Int) := by omega
        have HW := Lib.hid (HE.out.keep ((Bel.refl wr).alloc (.cells #[.int .u8 48] 5)))
        go_wp2_with (at_builtin; refine wpl_append_ext (by rfl) (.tmp 20) (.tmp 21) 24 rfl Tryd.underlying24 hi0 hz0 hz1 hz2 rfl (by omega) HW.out rfl (rd_lit (l := [48]) rfl) rfl rfl (by omega) (by simp; omega) (by simp; omega) ?_; intro v4 w4 hown4 hb4)
        have hbw4 : Bel w w4 := Below.trans (hb3.alloc _) hb4
        have e1 : [38, 35, 120] ++ List.replicate j (48 : Int) ++ [48] = [38, 35, 120] ++ List.replicate (j + 1) 48 := by rw [List.append_assoc, ← List.replicate_succ']
        rw [e1] at hown4
        try go_wp2
        go_roundw
        case rel => exact ⟨j + 1, by go_num, by omega, Lib.hid (.inl hown4), hbw4⟩
        case measure => simp [intOf]; omega
      · have q1 : ¬ (j : Int) < 4 - (k : Int) := by omega
        have hj4 : j = 4 - k := by omega
        have hDl : D.length = k := HK.out
        go_wp2_with (first
          | (at_builtin; refine wpl_append_str (by rfl) (.tmp 24) (.tmp 25) 24 9 rfl Tryd.underlying24 Tryd.underlying9 hi0 hz0 hz1 hz2 HE.out rfl rfl (fun x hx => by have := HD.out x hx; omega) (by omega) (by simp; omega) hsz3 ?_; intro v4 w4 hown4 hb4; have hbw4 : Bel w w4 := Below.trans hb3 hb4; have hs4 := Below.size hbw4; have hown5 := hown4.keep ((Bel.refl w4).alloc (.cells #[.int .u8 59] 5)))
          | (at_builtin; refine wpl_append (by rfl) (.tmp 27) (.tmp 28) 24 rfl Tryd.underlying24 hi0 hz0 hz1 hz2 rfl (by omega) hown5 rfl (rd_lit (l := [59]) rfl) rfl rfl (fun e => by cases e) (by simp; omega) (by simp; omega) ?_; intro v6 w6 hown6 hb6))
        go_ret2
        refine ⟨v6, rfl, ?_, Below.trans (hbw4.alloc _) hb6⟩
        rw [HR.out, ← hj4]
        exact hown6
end Go.Proofs.YtfggeofknmdmfaaDoor.U
