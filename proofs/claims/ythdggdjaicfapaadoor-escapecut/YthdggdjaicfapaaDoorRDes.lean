/- What the reference's Designate answers: the least of the escapes that make a set a side's, or none. -/
import Derived.Test.YthdggdjaicfapaaDoorEscs2
namespace Go.Proofs.YthdggdjaicfapaaDoor.U
open Go.RowKit
set_option linter.unusedVariables false

/-- The escapes lie in block g. -/
def Ec (w : World) (g : Nat) : Prop := ∀ (k : Nat) (x : Esc), escs[k]? = some x → w.cell? ⟨g, k * 3, none⟩ = some (.string (str x.1)) ∧ w.cell? ⟨g, k * 3 + 1, none⟩ = some (.int .i64 x.2.1) ∧ w.cell? ⟨g, k * 3 + 2, none⟩ = some (.int .i64 x.2.2)
theorem Ec.bel {w w' : World} {g : Nat} (h : Ec w g) (hb : Bel w w') : Ec w' g := fun k x hx => by
  obtain ⟨h0, h1, h2⟩ := h k x hx
  exact ⟨(Below.cell hb (p := ⟨g, k * 3, none⟩) (cell_block h0)).trans h0, (Below.cell hb (p := ⟨g, k * 3 + 1, none⟩) (cell_block h1)).trans h1, (Below.cell hb (p := ⟨g, k * 3 + 2, none⟩) (cell_block h2)).trans h2⟩

/-- The best one as yet. -/
def BestIs (w : World) (v : Value) : Option (List Int) → Prop
  | none => v = .slice none 0 0
  | some l => ∃ g n cap, l.length = n ∧ v = .slice (some ⟨g, 0, none⟩) n cap ∧ n ≤ cap ∧ Rd w w.heap.size .u8 (some ⟨g, 0, none⟩) l
theorem BestIs.bel {w w' : World} {v : Value} {b : Option (List Int)} (h : BestIs w v b) (hb : Bel w w') : BestIs w' v b := by
  rcases b with _ | l
  · exact h
  · obtain ⟨g, n, cap, h1, h2, h3, h4⟩ := h
    exact ⟨g, n, cap, h1, h2, h3, (h4.bel hb).here⟩
def BestRel (W : World) (side set : Int) (v i : Value) (w : World) : Prop := ∃ k : Nat, i = .int .i64 k ∧ k ≤ 40 ∧ BestIs w v (bestOf side set (escs.take k)) ∧ Bel W w
def RDesPost (w : World) (b : Option (List Int)) (e : Ending) (w' : World) : Prop := ∃ v ok, e = .returned (.tuple #[v, .bool ok]) ∧ b.isSome = ok ∧ BestIs w' v b ∧ Bel w w'

theorem run_bytes_cap (w : World) {l : List Int} {n : Nat} (h : ∀ x ∈ l, 0 ≤ x ∧ x < 256) (hl : l.length = n) :
    ∃ cap w', (convert 9 22 (.string (str l))).run Tryd.prog w = .ok (.slice (some ⟨w.heap.size, 0, none⟩) n cap) w' ∧ Rd w' (w.heap.size + 1) .u8 (some ⟨w.heap.size, 0, none⟩) l ∧ Bel w w' ∧ n ≤ cap := by
  have hrun := run_bytes_of_string (P := Tryd.prog) w 9 22 5 (str l) Tryd.underlying9 Tryd.underlying22 Tryd.underlying5
  rw [str_size, hl] at hrun
  obtain ⟨cap, w', h1, h2, h3⟩ := run_bytes_str (P := Tryd.prog) w 9 22 5 Tryd.underlying9 Tryd.underlying22 Tryd.underlying5 h hl
  refine ⟨cap, w', h1, h2, h3, ?_⟩
  rw [hrun] at h1
  have := grownCap_ge w n 0 5
  injection h1 with h4
  injection h4 with h5 h6 h7
  omega

theorem neq_nil (w : World) : (binOp .neq 22 (.slice none 0 0) (.slice none 0 0)).run Tryd.prog w = .ok (.bool false) w := by kernel_rfl
theorem neq_some (w : World) (g n c : Nat) : (binOp .neq 22 (.slice (some ⟨g, 0, none⟩) n c) (.slice none 0 0)).run Tryd.prog w = .ok (.bool true) w := by kernel_rfl
set_option maxRecDepth 100000 in
set_option maxHeartbeats 4000000 in
theorem rdes_is (side set : Int) (b : Option (List Int)) (w : World) (hb : bestOf side set escs = b) : Calls Tryd.prog 12 #[.int .i64 side, .int .i64 set] w (RDesPost w b) := by
  have HB := Lib.hid hb
  clear hb
  go_enter Tryd.func12, Tryd.ntmps12
  go_wp2_with (go_at_call 14; (with_reducible refine (escapes_is _).mono ?_); rintro e w1 ⟨g, cap, rfl, hcap, hE, hb1⟩)
  have HE : Hid (Ec w1 g) := Lib.hid hE
  clear hE
  go_loopw [6, 8] (fun v i wr => BestRel w1 side set v i wr) (fun _ i _ => 40 - (intOf i).toNat)
  case atStart => exact ⟨0, rfl, by omega, rfl, Bel.refl _⟩
  case round =>
    obtain ⟨k, rfl, hk, hbest, hbw⟩ := hrel
    by_cases hlt : k < 40
    · obtain ⟨⟨B, s, t⟩, hx⟩ := escs_at hlt
      obtain ⟨d0, d1, d2⟩ := HE.out.bel hbw k _ hx
      dsimp only at d0 d1 d2
      have hok := (escs_ok _ (List.mem_of_getElem? hx))
      dsimp only at hok
      have HX := Lib.hid (bestOf_next (side := side) (set := set) hx)
      have q0 : (0 : Int) ≤ (k : Int) := by omega
      have q1 : (k : Int) < 40 := by omega
      have HBW := Lib.hid hbw
      by_cases hs : s = side
      · by_cases ht : t = set
        · subst hs ht
          have e1 : (s == s) = true := by simp
          have e2 : (t == t) = true := by simp
          obtain ⟨n, hn⟩ : ∃ n, B.length = n := ⟨_, rfl⟩
          generalize bestOf s t (escs.take k) = best at hbest HX
          rcases best with _ | l
          · obtain rfl : u6 = .slice none 0 0 := hbest
            obtain ⟨cap1, w2, hrun, hrd, hb2, hc1⟩ := run_bytes_cap wr hok.1 hn
            have hR : BestIs w2 (.slice (some ⟨wr.heap.size, 0, none⟩) n cap1) (bestOf s t (escs.take (k + 1))) := by
              rw [HX.out]
              simp only [better, and_self, if_true]
              exact ⟨_, n, cap1, hn, rfl, hc1, hrd.here⟩
            have HR := Lib.hid hR
            have HB2 := Lib.hid (hbw.trans hb2)
            clear hR hrd hb2 hok HX hbw
            go_wp2
            rename_i hK
            refine hK _ _ ?_
            show wpList _ _ _ _ (Act.put _ _ (.bool true)) _
            go_wp2
            go_roundw
            case rel => exact ⟨k + 1, by go_num, by omega, HR.out, HB2.out⟩
            case measure => simp [intOf]; omega
          · obtain ⟨g2, n2, c2, hl2, rfl, hc2, hr2⟩ := hbest
            obtain ⟨cap1, w2, hrun, hrd, hb2, hc1⟩ := run_bytes_cap wr hok.1 hn
            obtain ⟨b0, hb0⟩ : ∃ b0, lessB B l = b0 := ⟨_, rfl⟩
            have HL := Lib.hid (less_is (some ⟨wr.heap.size, 0, none⟩) (some ⟨g2, 0, none⟩) n n2 cap1 c2 B l _ _ b0 w2 hrd (hr2.bel hb2) hn hl2 (by rw [← hn]; have := hok.2.2.1; omega) hb0)
            obtain ⟨f0, _, _⟩ := HE.out.bel (hbw.trans hb2) k _ hx
            dsimp only at f0
            have HB2 := Lib.hid (hbw.trans hb2)
            have HOK := Lib.hid hok.1
            have HNN := Lib.hid hn
            have HXX : Hid (better s t (some l) (B, s, t) = if b0 = true then some B else some l) := Lib.hid (by simp [better, hb0])
            have HBest := Lib.hid (show BestIs w2 (.slice (some ⟨g2, 0, none⟩) n2 c2) (some l) from ⟨g2, n2, c2, hl2, rfl, hc2, (hr2.bel hb2).here⟩)
            clear hrd hb2 hok hbw hl2 hr2 hb0 hn hx
            go_wp2
            rename_i hK
            refine hK _ _ ?_
            show wpList _ _ _ _ (Act.put _ _ (.bool false)) _
            go_wp2_with fail
            refine HL.out.mono ?_
            rintro e w3 ⟨rfl, q, rfl⟩
            clear HL
            rcases b0 with _ | _
            · have HR : Hid (BestIs (w2.drewN q) (.slice (some ⟨g2, 0, none⟩) n2 c2) (bestOf s t (escs.take (k + 1)))) := Lib.hid (by
                rw [HX.out, HXX.out, if_neg (by simp)]
                exact HBest.out.bel ((Bel.refl w2).drewN q))
              clear HBest HX HXX
              go_wp2
              go_roundw
              case rel => exact ⟨k + 1, by go_num, by omega, HR.out, HB2.out.drewN q⟩
              case measure => simp [intOf]; omega
            · obtain ⟨cap3, w4, hrun3, hrd3, hb3, hc3⟩ := run_bytes_cap (w2.drewN q) HOK.out HNN.out
              have HR : Hid (BestIs w4 (.slice (some ⟨(w2.drewN q).heap.size, 0, none⟩) n cap3) (bestOf s t (escs.take (k + 1)))) := Lib.hid (by
                rw [HX.out, HXX.out, if_pos rfl]
                exact ⟨_, n, cap3, HNN.out, rfl, hc3, hrd3.here⟩)
              have HB4 := Lib.hid ((HB2.out.drewN q).trans hb3)
              clear HBest HX HXX hrd3 hb3
              go_wp2
              go_roundw
              case rel => exact ⟨k + 1, by go_num, by omega, HR.out, HB4.out⟩
              case measure => simp [intOf]; omega
        · subst hs
          have e1 : (s == s) = true := by simp
          have e2 : (t == set) = false := by simpa using ht
          have HR : Hid (BestIs wr u6 (bestOf s set (escs.take (k + 1)))) := Lib.hid (by
            rw [HX.out]
            unfold better
            rw [if_neg (by rintro ⟨_, h⟩; exact ht h)]
            exact hbest)
          clear hbest hbw HX hok hx ht
          go_wp2
          go_roundw
          case rel => exact ⟨k + 1, by go_num, by omega, HR.out, HBW.out⟩
          case measure => simp [intOf]; omega
      · have e1 : (s == side) = false := by simpa using hs
        have HR : Hid (BestIs wr u6 (bestOf side set (escs.take (k + 1)))) := Lib.hid (by
          rw [HX.out]
          unfold better
          rw [if_neg (by rintro ⟨h, _⟩; exact hs h)]
          exact hbest)
        clear hbest hbw HX hok hx hs
        go_wp2
        go_roundw
        case rel => exact ⟨k + 1, by go_num, by omega, HR.out, HBW.out⟩
        case measure => simp [intOf]; omega
    · obtain rfl : k = 40 := by omega
      rw [List.take_of_length_le (by rw [escs_len]; omega), HB.out] at hbest
      clear HE HB
      rcases b with _ | l
      · obtain rfl : u6 = .slice none 0 0 := hbest
        have r3 := neq_nil wr
        go_wp2
        go_ret2
        exact ⟨_, _, rfl, rfl, rfl, hb1.trans hbw⟩
      · obtain ⟨g2, n, c2, h1, rfl, h3, h4⟩ := hbest
        have r3 := neq_some wr g2 n c2
        go_wp2
        go_ret2
        exact ⟨_, _, rfl, rfl, ⟨g2, n, c2, h1, rfl, h3, h4⟩, hb1.trans hbw⟩
end Go.Proofs.YthdggdjaicfapaaDoor.U
