/- What the reference's Next answers where a byte 27 stands. -/
import Derived.Test.YthdggdjaicfapaaDoorRNext
namespace Go.Proofs.YthdggdjaicfapaaDoor.U
open Go.RowKit
set_option linter.unusedVariables false

def RThere (w : World) (s0 s1 : Int) (k : Nat) (o : Option Esc) (e : Ending) (w' : World) : Prop := match o with
  | none => NextNo w 5 k e w'
  | some x => NextYes w s0 s1 x.2.1 x.2.2 x.1.length e w'
set_option maxRecDepth 100000 in
set_option maxHeartbeats 4000000 in
theorem rnext_there (A : Option Addr) (n c k K : Nat) (o : Option Esc) (l : List Int) (s0 s1 : Int) (w : World) (hA : Rd w w.heap.size .u8 A l) (hn : l.length = n) (hc : n ≤ c) (hn' : n ≤ 9223372036854770000) (hb : ∀ x ∈ l, 0 ≤ x ∧ x < 256) (hk : l[k]? = some 27)
    (hK : RNKnown l k K o) (hK40 : K ≤ 40) :
    Calls Tryd.prog 9 #[.slice A n c, .int .i64 k, .agg #[.int .i64 s0, .int .i64 s1]] w (RThere w s0 s1 k o) := by
  have HX0 := Lib.hid (bx_made w s0 s1)
  have hkn : k < n := by rw [← hn]; exact (List.getElem?_eq_some_iff.1 hk).1
  obtain ⟨g, off, rfl, hg, hcell⟩ := hA k 27 hk
  have hcell' := (Below.cell HX0.out.2.2.2.2.2.2.2 (p := ⟨g, off + k, none⟩) hg).trans hcell
  have q0 : ¬ (k : Int) < 0 := by omega
  have q1 : decide ((n : Int) ≤ (k : Int)) = false := decide_eq_false (by omega)
  have q2 : (k : Int) < (n : Int) := by omega
  have q3 : (0 : Int) ≤ (k : Int) := by omega
  have HA := Lib.hid hA
  have HN := Lib.hid hn
  have HB := Lib.hid hb
  have HK := Lib.hid hK
  clear hA hn hb hK hk hcell HX0
  go_enter Tryd.func9, Tryd.ntmps9
  go_wp2_with fail
  refine (escapes_is _).mono ?_
  rintro e w1 ⟨ge, ce, rfl, hce, hE, hb1⟩
  have HX := Lib.hid ((bx_made w s0 s1).bel hb1)
  have HE : Hid (Ec w1 ge) := Lib.hid hE
  have HR1 := Lib.hid ((HA.out.drop (k := k)).bel HX.out.2.2.2.2.2.2.2)
  clear hE hb1 hcell'
  generalize w.heap.size + 1 + 1 = bc at *
  generalize w.heap.size + 1 = bb at *
  generalize hba : w.heap.size = ba at *
  replace hba := Lib.hid hba
  go_wp2
  go_loopw [10] (fun i wr => RNRel w1 K i wr) (fun i _ => 40 - (intOf i).toNat)
  case atStart => exact ⟨0, 0, rfl, Nat.zero_le _, rfl⟩
  case round =>
    obtain ⟨j, q, rfl, hj, rfl⟩ := hrel
    by_cases hlt : j < K
    · obtain ⟨⟨B, s, t⟩, hx⟩ := escs_at (k := j) (by omega)
      obtain ⟨d0, d1, d2⟩ := HE.out j _ hx
      dsimp only at d0 d1 d2
      have hok := escs_ok _ (List.mem_of_getElem? hx)
      have hnot := HK.out.1 (B, s, t) (by rw [List.mem_take_iff_getElem]; exact ⟨j, by rw [escs_len]; omega, by simpa using (List.getElem?_eq_some_iff.1 hx).2⟩)
      dsimp only at hok hnot
      obtain ⟨nb, hnb⟩ : ∃ nb, B.length = nb := ⟨_, rfl⟩
      have hsz : (str B).size = nb := by rw [str_size, hnb]
      have p0 : (0 : Int) ≤ (j : Int) := by omega
      have p1 : (j : Int) < 40 := by omega
      have nb2 : 2 ≤ nb ∧ nb ≤ 4 := by omega
      have hwn : IntKind.i64.wrap ((k : Int) + nb) = (k : Int) + nb := by rw [IntKind.wrap_i64]; omega
      by_cases hle : k + nb ≤ n
      · have r2 : (k : Int) + nb ≤ (n : Int) := by omega
        have r3 : (k : Int) + nb ≤ (c : Int) := by omega
        have r4 : (k : Int) ≤ (k : Int) + nb := by omega
        have r5 : ((k : Int) + nb).toNat = k + nb := by omega
        have r6 : ¬ c = k := by omega
        have hne : ((str ((l.drop k).take nb)).toList == (str B).toList) = false := str_ne (fun x hx => HB.out x (List.mem_of_mem_drop (List.mem_of_mem_take hx))) hok.1 (fun e => hnot (by rw [List.prefix_iff_eq_take, hnb]; exact e.symm))
        have hrunS : ∀ q cc, (convert 22 9 (.slice (some ⟨g, off + k, none⟩) nb cc)).run Tryd.prog (w1.drewN q) = .ok (.string (str ((l.drop k).take nb))) (w1.drewN q) := fun q cc =>
          run_str_bytes (P := Tryd.prog) (w1.drewN q) 22 9 5 Tryd.underlying22 Tryd.underlying5 Tryd.underlying9 HR1.out.take.drewN (by rw [List.length_take, List.length_drop, HN.out]; omega) (fun x hx => HB.out x (List.mem_of_mem_drop (List.mem_of_mem_take hx)))
        clear hx hok hnot d1 d2 hle
        go_wp2
        go_quiet (fail)
        go_wp2
        go_roundw
        case rel => exact ⟨j + 1, _, by go_num, by omega, by first | rfl | exact World.drewN_drewN _ _ _⟩
        case measure => simp [intOf]; omega
      · have r2 : decide ((k : Int) + nb ≤ (n : Int)) = false := decide_eq_false (by omega)
        clear hx hok hnot d1 d2 hle
        go_wp2
        go_quiet (fail)
        go_wp2
        go_roundw
        case rel => exact ⟨j + 1, _, by go_num, by omega, by first | rfl | exact World.drewN_drewN _ _ _⟩
        case measure => simp [intOf]; omega
    · obtain rfl : j = K := by omega
      obtain ⟨x1, x2, x3, x4, ⟨a0, a1, a2, a3⟩, ⟨b0, b1, b2, b3⟩, ⟨c0, c1, c2, c3⟩, hw⟩ := HX.out
      have HW := Lib.hid hw
      have p0 : (0 : Int) ≤ (j : Int) := by omega
      have n1 : ba ≠ bb := by omega
      have n2 : bb ≠ ba := by omega
      have n3 : ba ≠ bc := by omega
      have n4 : bc ≠ ba := by omega
      have n5 : bb ≠ bc := by omega
      have n6 : bc ≠ bb := by omega
      rcases o with _ | ⟨B, s, t⟩
      · obtain rfl : j = 40 := HK.out.2
        clear hw HE HX HR1
        go_wp2
        refine bodyPost_ret (v := .tuple #[.agg #[.int .i64 0, .int .i64 0], .int .i64 0, .agg #[.int .i64 5, .int .i64 k]]) (by simp [results, Tryd.results9, go_sem, b0, b1, c0, c1, n1, n2, n3, n4, n5, n6]) rfl ⟨rfl, ?_⟩
        refine four_sets (HW.out.drewN q) ?_ ?_ _ _ _ _ <;> rw [hba.out] <;> omega
      · obtain ⟨hx, hp⟩ := HK.out.2
        dsimp only at hp
        obtain ⟨d0, d1, d2⟩ := HE.out j _ hx
        dsimp only at d0 d1 d2
        have hok := escs_ok _ (List.mem_of_getElem? hx)
        dsimp only at hok
        have hj40 : j < 40 := by rw [← escs_len]; exact (List.getElem?_eq_some_iff.1 hx).1
        obtain ⟨nb, hnb⟩ : ∃ nb, B.length = nb := ⟨_, rfl⟩
        have hsz : (str B).size = nb := by rw [str_size, hnb]
        have nb2 : 2 ≤ nb ∧ nb ≤ 4 := by omega
        have hle : k + nb ≤ n := by
          have := hp.length_le
          rw [List.length_drop, HN.out, hnb] at this
          omega
        have hwn : IntKind.i64.wrap ((k : Int) + nb) = (k : Int) + nb := by rw [IntKind.wrap_i64]; omega
        have p1 : (j : Int) < 40 := by omega
        have r2 : (k : Int) + nb ≤ (n : Int) := by omega
        have r3 : (k : Int) + nb ≤ (c : Int) := by omega
        have r4 : (k : Int) ≤ (k : Int) + nb := by omega
        have r5 : ((k : Int) + nb).toNat = k + nb := by omega
        have r6 : ¬ c = k := by omega
        have htk : (l.drop k).take nb = B := by rw [← hnb]; exact (List.prefix_iff_eq_take.1 hp).symm
        have heq : ((str B).toList == (str B).toList) = true := by simp
        have hrunS : ∀ q cc, (convert 22 9 (.slice (some ⟨g, off + k, none⟩) nb cc)).run Tryd.prog (w1.drewN q) = .ok (.string (str B)) (w1.drewN q) := fun q cc => by
          rw [← htk]
          exact run_str_bytes (P := Tryd.prog) (w1.drewN q) 22 9 5 Tryd.underlying22 Tryd.underlying5 Tryd.underlying9 HR1.out.take.drewN (by rw [List.length_take, List.length_drop, HN.out]; omega) (fun x hx => HB.out x (List.mem_of_mem_drop (List.mem_of_mem_take hx)))
        have HNB := Lib.hid hnb
        have hv : s = 0 ∨ s = 1 := hok.2.2.2.1.1
        clear hw HE HX HR1 hx hok hp hle htk hnb
        rcases hv with rfl | rfl
        · go_wp2
          go_quiet (fail)
          go_wp2
          refine bodyPost_ret (v := .tuple #[.agg #[.int .i64 t, .int .i64 s1], .int .i64 nb, .agg #[.int .i64 0, .int .i64 0]]) (by simp [results, Tryd.results9, go_sem, b0, b1, c0, c1, n1, n2, n3, n4, n5, n6]) rfl ⟨by rw [← HNB.out]; rfl, ?_⟩
          refine five_sets (HW.out.drewN _) ?_ ?_ ?_ _ _ _ _ _ <;> rw [hba.out] <;> omega
        · go_wp2
          go_quiet (fail)
          go_wp2
          refine bodyPost_ret (v := .tuple #[.agg #[.int .i64 s0, .int .i64 t], .int .i64 nb, .agg #[.int .i64 0, .int .i64 0]]) (by simp [results, Tryd.results9, go_sem, b0, b1, c0, c1, n1, n2, n3, n4, n5, n6]) rfl ⟨by rw [← HNB.out]; rfl, ?_⟩
          refine five_sets (HW.out.drewN _) ?_ ?_ ?_ _ _ _ _ _ <;> rw [hba.out] <;> omega

/-- What Next answers where a byte 27 stands: by what stands there. -/
def NextP (w : World) (l : List Int) (k : Nat) (s0 s1 : Int) (e : Ending) (w' : World) : Prop :=
  (NoEsc (l.drop k) ∧ NextNo w 5 k e w') ∨ ∃ side set N, Reads (l.drop k) side set N ∧ NextYes w s0 s1 side set N e w'
theorem rnext_any (A : Option Addr) (n c k : Nat) (l : List Int) (s0 s1 : Int) (w : World) (hA : Rd w w.heap.size .u8 A l) (hn : l.length = n) (hc : n ≤ c) (hn' : n ≤ 9223372036854770000) (hb : ∀ x ∈ l, 0 ≤ x ∧ x < 256) (hk : l[k]? = some 27) :
    Calls Tryd.prog 9 #[.slice A n c, .int .i64 k, .agg #[.int .i64 s0, .int .i64 s1]] w (NextP w l k s0 s1) := by
  obtain ⟨K, o, hK, hK40⟩ := rn_known l k
  refine (rnext_there A n c k K o l s0 s1 w hA hn hc hn' hb hk hK hK40).mono ?_
  intro e w' hp
  rcases o with _ | x
  · refine .inl ⟨?_, hp⟩
    have h40 : K = 40 := hK.2
    have := hK.1
    rwa [h40, List.take_of_length_le (by rw [escs_len]; omega)] at this
  · refine .inr ⟨x.2.1, x.2.2, x.1.length, ⟨x.1, List.mem_of_getElem? hK.2.1, rfl, hK.2.2⟩, hp⟩
end Go.Proofs.YthdggdjaicfapaaDoor.U
