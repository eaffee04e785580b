/- What the reference's Escapes answers: the forty escapes of chapter 8, in a row of its own. -/
import Derived.Test.YthdggdjaicfapaaDoorEscs
namespace Go.Proofs.YthdggdjaicfapaaDoor.U
open Go.RowKit
set_option linter.unusedVariables false

theorem lst_made (w : World) : Lst (w.alloc (.cells #[.string ⟨#[]⟩, .string ⟨#[66]⟩, .string ⟨#[33, 69]⟩, .string ⟨#[83]⟩, .string ⟨#[50]⟩, .string ⟨#[51]⟩, .string ⟨#[52]⟩, .string ⟨#[78]⟩, .string ⟨#[81]⟩] 9)) w.heap.size := fun j l hl => by
  refine (World.cell?_alloc_mark w _ 9 (0, 0) j).trans ?_
  have h : ((lastT.take 9).map fun l => Value.string (str l))[j]? = some (Value.string (str l)) := by rw [List.getElem?_map, hl]; rfl
  have e : (lastT.take 9).map (fun l => Value.string (str l)) = [.string ⟨#[]⟩, .string ⟨#[66]⟩, .string ⟨#[33, 69]⟩, .string ⟨#[83]⟩, .string ⟨#[50]⟩, .string ⟨#[51]⟩, .string ⟨#[52]⟩, .string ⟨#[78]⟩, .string ⟨#[81]⟩] := by kernel_rfl
  rw [e] at h
  simpa using h
theorem lastT_get {m : Nat} (h : m ≤ 12) : ∃ L, lastT[m]? = some L := by
  have e : lastT.length = 13 := by decide
  exact ⟨lastT[m]'(by omega), by simp⟩
theorem keepE {w w' : World} {G m : Nat} {v : Value} (h : w.cell? ⟨G, m, none⟩ = some v) (hb : Below (G + 1) w w') : w'.cell? ⟨G, m, none⟩ = some v ∧ Below (G + 1) w w' :=
  ⟨(hb.cell (p := ⟨G, m, none⟩) (Nat.lt_succ_self G)).trans h, hb⟩
theorem four_cells (m : Nat) (L : List Int) : (#[.string (⟨#[27, 40]⟩ ++ str L), .int .i64 0, .int .i64 m, .string (⟨#[27, 44]⟩ ++ str L), .int .i64 0, .int .i64 m, .string (⟨#[27, 41]⟩ ++ str L), .int .i64 1, .int .i64 m, .string (⟨#[27, 45]⟩ ++ str L), .int .i64 1, .int .i64 m] : Array Value).toList = (four m L).flatMap row3 := by
  simp only [four, List.flatMap_cons, List.flatMap_nil, row3, str_add]
  rfl
theorem mem8 {m : Nat} (h0 : 1 ≤ m) (h1 : m ≤ 8) : m ∈ [1, 2, 3, 4, 5, 6, 7, 8] := by
  have : m = 1 ∨ m = 2 ∨ m = 3 ∨ m = 4 ∨ m = 5 ∨ m = 6 ∨ m = 7 ∨ m = 8 := by omega
  rcases this with rfl | rfl | rfl | rfl | rfl | rfl | rfl | rfl <;> decide

theorem esc_fin {w w' : World} {base : Nat} {v : Value} (h : EOwn w' base v (escs.take 32 ++ escs.drop 32)) (hb : Bel w w') : EscPost w (.returned v) w' := by
  rw [List.take_append_drop] at h
  rcases h.2 with ⟨_, h1⟩ | ⟨g, cap, cur, rfl, _, _, hc, _, _, _⟩
  · rw [escs_len] at h1; omega
  · have hcell : ∀ j u, (escs.flatMap row3)[j]? = some u → w'.cell? ⟨g, j, none⟩ = some u := fun j u hu => by
      have := World.ownsRow.cells h (g := g) rfl j u hu
      rwa [addr_add, Nat.zero_add] at this
    refine ⟨g, cap, by rw [escs_len], by rw [escs_len] at hc; exact hc, fun k x hx => ?_, hb⟩
    have f := fun j hj => flat3 escs k x hx j hj
    exact ⟨hcell _ _ (f 0 (by omega)), hcell _ _ (f 1 (by omega)), hcell _ _ (f 2 (by omega))⟩

set_option maxRecDepth 100000 in
set_option maxHeartbeats 4000000 in
theorem escapes_is (w : World) : Calls Tryd.prog 14 #[] w (EscPost w) := by
  have HL0 := Lib.hid (lst_made w)
  go_enter Tryd.func14, Tryd.ntmps14
  go_wp2
  go_loopw [1, 3] (fun v i wr => EscRel w w.heap.size v i wr) (fun _ i _ => 9 - (intOf i).toNat)
  case atStart => exact ⟨1, rfl, by omega, by omega, World.ownsRow_nil _ _ _ _, HL0.out, (Bel.refl w).alloc _, by simp⟩
  case round =>
    obtain ⟨m, rfl, h1, h9, hown, hlst, hb, hsz⟩ := hrel
    clear HL0
    by_cases hlt : m ≤ 8
    · obtain ⟨L, hL⟩ : ∃ L, lastT[m]? = some L := lastT_get (m := m) (by omega)
      obtain ⟨hn, hL9⟩ := four_next m (mem8 h1 hlt) L hL
      have hcell := hlst m L hL9
      have q0 : (0 : Int) ≤ (m : Int) := by omega
      have q1 : (m : Int) < 9 := by omega
      have q2 : (m : Int) ≤ 8 := by omega
      have hno : ¬ 9223372036854775807 < 2 + (str L).size := by
        have := (lasts_ok L (List.mem_of_getElem? hL)).2
        rw [str_size]; omega
      have HLEN : Hid ((escs.take (4 * m - 4)).length + 4 ≤ 1000) := Lib.hid (by rw [List.length_take, escs_len]; omega)
      have HO := Lib.hid hown
      have HN := Lib.hid hn
      have HLs := Lib.hid hlst
      have HB := Lib.hid hb
      have HS := Lib.hid hsz
      have HNW := Lib.hid (news_made (w := wr) (cs := #[.string (⟨#[27, 40]⟩ ++ str L), .int .i64 0, .int .i64 m, .string (⟨#[27, 44]⟩ ++ str L), .int .i64 0, .int .i64 m, .string (⟨#[27, 41]⟩ ++ str L), .int .i64 1, .int .i64 m, .string (⟨#[27, 45]⟩ ++ str L), .int .i64 1, .int .i64 m]) (ys := four m L) (n := wr.heap.size) rfl (four_cells m L))
      have HO2 := Lib.hid (HO.out.keep ((Bel.refl wr).alloc (.cells #[.string (⟨#[27, 40]⟩ ++ str L), .int .i64 0, .int .i64 m, .string (⟨#[27, 44]⟩ ++ str L), .int .i64 0, .int .i64 m, .string (⟨#[27, 41]⟩ ++ str L), .int .i64 1, .int .i64 m, .string (⟨#[27, 45]⟩ ++ str L), .int .i64 1, .int .i64 m] 41)).drew)
      have HBS : Hid (w.heap.size + 1 ≤ (wr.alloc (.cells #[.string (⟨#[27, 40]⟩ ++ str L), .int .i64 0, .int .i64 m, .string (⟨#[27, 44]⟩ ++ str L), .int .i64 0, .int .i64 m, .string (⟨#[27, 41]⟩ ++ str L), .int .i64 1, .int .i64 m, .string (⟨#[27, 45]⟩ ++ str L), .int .i64 1, .int .i64 m] 41)).drew.heap.size) := Lib.hid (by have := HS.out; simp; omega)
      clear hn hL hL9 hlst hown hb hsz h9
      go_wp2
      go_region_held3 (fun w' => w'.cell? ⟨w.heap.size, m, none⟩ = some (.string (str L)) ∧ Below (w.heap.size + 1) wr w')
        (first | assumption | exact keepE hcell ((Below.refl _ _).drew) | exact keepE hcell (((Below.refl _ _).alloc HS.out _).drew) | exact keepE hcell ((((Below.refl _ _).alloc HS.out _).drew).trans hb2))
        (first | (refine step_append_e (by rfl) (.tmp 9) (.tmp 38) (by rfl) HO2.out rfl rfl rfl HNW.out HLEN.out HBS.out ?_; intro v2 w2 hown2 hb2) | fail)
      have hB : Below (w.heap.size + 1) wr w2 := (((Below.refl _ _).alloc HS.out _).drew).trans hb2
      have HF : Hid (EscRel w w.heap.size v2 (.int .i64 ((m + 1 : Nat) : Int)) w2) := Lib.hid ⟨m + 1, rfl, by omega, by omega, by rw [HN.out]; exact hown2, HLs.out.below hB, Below.trans HB.out (Below.mono hB (Nat.le_succ _)), by have := HS.out; have := Below.size hB; omega⟩
      clear hown2 hb2 hB HO2 HNW HBS HO HN HLs HB HLEN
      go_wp2
      go_roundw
      case rel => exact HF.out
      case measure => simp [intOf]; omega
    · obtain rfl : m = 9 := by omega
      have HO2 := Lib.hid (hown.keep ((Bel.refl wr).alloc (.cells #[.string ⟨#[27, 36, 49]⟩, .int .i64 0, .int .i64 9, .string ⟨#[27, 36, 44, 49]⟩, .int .i64 0, .int .i64 9, .string ⟨#[27, 36, 41, 49]⟩, .int .i64 1, .int .i64 9, .string ⟨#[27, 36, 45, 49]⟩, .int .i64 1, .int .i64 9, .string ⟨#[27, 98]⟩, .int .i64 0, .int .i64 10, .string ⟨#[27, 112]⟩, .int .i64 0, .int .i64 11, .string ⟨#[27, 103]⟩, .int .i64 0, .int .i64 12, .string ⟨#[27, 115]⟩, .int .i64 0, .int .i64 1] 41)))
      have HNW := Lib.hid (news_made (w := wr) (cs := #[.string ⟨#[27, 36, 49]⟩, .int .i64 0, .int .i64 9, .string ⟨#[27, 36, 44, 49]⟩, .int .i64 0, .int .i64 9, .string ⟨#[27, 36, 41, 49]⟩, .int .i64 1, .int .i64 9, .string ⟨#[27, 36, 45, 49]⟩, .int .i64 1, .int .i64 9, .string ⟨#[27, 98]⟩, .int .i64 0, .int .i64 10, .string ⟨#[27, 112]⟩, .int .i64 0, .int .i64 11, .string ⟨#[27, 103]⟩, .int .i64 0, .int .i64 12, .string ⟨#[27, 115]⟩, .int .i64 0, .int .i64 1]) (ys := escs.drop 32) (n := wr.heap.size) rfl (by kernel_rfl))
      have HBS : Hid (w.heap.size + 1 ≤ (wr.alloc (.cells #[.string ⟨#[27, 36, 49]⟩, .int .i64 0, .int .i64 9, .string ⟨#[27, 36, 44, 49]⟩, .int .i64 0, .int .i64 9, .string ⟨#[27, 36, 41, 49]⟩, .int .i64 1, .int .i64 9, .string ⟨#[27, 36, 45, 49]⟩, .int .i64 1, .int .i64 9, .string ⟨#[27, 98]⟩, .int .i64 0, .int .i64 10, .string ⟨#[27, 112]⟩, .int .i64 0, .int .i64 11, .string ⟨#[27, 103]⟩, .int .i64 0, .int .i64 12, .string ⟨#[27, 115]⟩, .int .i64 0, .int .i64 1] 41)).heap.size) := Lib.hid (by simp; omega)
      have HB := Lib.hid hb
      have HS := Lib.hid hsz
      clear hown hlst hb hsz
      go_wp2_with (first
        | (at_builtin; refine wpl_append_e (by rfl) (.tmp 40) (.tmp 49) rfl HO2.out rfl rfl rfl HNW.out (by decide) HBS.out ?_; intro v2 w2 hown2 hb2)
        | fail)
      go_ret
      exact esc_fin hown2 (Below.trans HB.out (Below.mono (((Below.refl _ _).alloc HS.out _).trans hb2) (Nat.le_succ _)))
end Go.Proofs.YthdggdjaicfapaaDoor.U
