/- SetsLeast's walk: it answers true, where the table of last bytes lies in its variable. -/
import Derived.Test.YtmghmhhiahmjaaaDoorDes
import Derived.Test.YtmghmhhiahmjaaaDoorRDes
namespace Go.Proofs.YtmghmhhiahmjaaaDoor.U
open Go.RowKit
set_option linter.unusedVariables false

set_option maxRecDepth 100000 in
set_option maxHeartbeats 4000000 in
theorem least_any (n : Int) (w : World) (hT : Tb w) (h0 : 0 ≤ n) (h1 : n < 256) : Calls Tryd.prog 5 #[.int .u8 n] w fun e w' => e = .returned (.bool true) ∧ Bel w w' := by
  have HT := Lib.hid hT
  obtain ⟨k, hk⟩ : ∃ k : Nat, n % 40 = k := ⟨(n % 40).toNat, by omega⟩
  have hlt : k < 40 := by omega
  obtain ⟨⟨B, s, t⟩, hx⟩ := escs_at hlt
  have hok := escs_ok _ (List.mem_of_getElem? hx)
  dsimp only at hok
  obtain ⟨o1, o2, o3, o4, o5⟩ := hok
  obtain ⟨l, hl⟩ : ∃ l, desL s t = l := ⟨_, rfl⟩
  obtain ⟨m, hm⟩ : ∃ m, l.length = m := ⟨_, rfl⟩
  have hp := pairs_ok _ (valid_mem o4)
  dsimp only at hp
  rw [hl] at o5 hp
  have p1 := hp.2.2.1
  have p2 := hp.2.2.2.1
  clear hp
  rw [hm] at p1 p2
  obtain ⟨nb, hnb⟩ : ∃ nb, B.length = nb := ⟨_, rfl⟩
  have q0 : (0 : Int) ≤ (k : Int) := by omega
  have q1 : (k : Int) < 40 := by omega
  have q2 : (2 : Int) ≤ (m : Int) := by omega
  have q3 : (m : Int) ≤ 4 := by omega
  have HX := Lib.hid hx
  have HV := Lib.hid o4
  have HL := Lib.hid hl
  have HM := Lib.hid hm
  have HO1 := Lib.hid o1
  have HO5 := Lib.hid o5
  have HNB := Lib.hid hnb
  have HNL : Hid (nb ≤ 1000) := Lib.hid (by omega)
  clear hT hx o1 o2 o3 o4 o5 hl hm p1 p2 hnb
  go_enter Tryd.func5, Tryd.ntmps5
  go_wp2_with fail
  refine (escapes_is w).mono ?_
  rintro e w1 ⟨g, cap, rfl, hcap, hE, hb1⟩
  obtain ⟨d0, d1, d2⟩ := hE k _ HX.out
  dsimp only at d0 d1 d2
  clear hE
  go_wp2_with fail
  obtain ⟨W, hW⟩ : ∃ W, w1.alloc (.cells #[.string (str B), .int .i64 s, .int .i64 t] 43) = W := ⟨_, rfl⟩
  have hbW : Bel w W := hW ▸ hb1.alloc _
  have hc : W.cell? ⟨w1.heap.size, 0, none⟩ = some (.string (str B)) := by
    rw [← hW, World.cell?_alloc_at _ _ _ _ (by simp)]; rfl
  rw [hW]
  clear hW
  refine (des_yes s t l m W (HT.out.bel hbW) HV.out HL.out HM.out).mono ?_
  rintro e w2 ⟨g2, c2, rfl, hc2, hr2, hb2⟩
  have HR2 := Lib.hid hr2
  have hc' : w2.cell? ⟨w1.heap.size, 0, none⟩ = some (.string (str B)) := (Below.cell hb2 (p := ⟨w1.heap.size, 0, none⟩) (cell_block hc)).trans hc
  clear hr2 d0 d1 d2
  go_wp2_with fail
  refine (answers_any w2 ((HT.out.bel hbW).bel hb2)).mono ?_
  rintro e w3 ⟨rfl, hb3⟩
  have hc'' : w3.cell? ⟨w1.heap.size, 0, none⟩ = some (.string (str B)) := (Below.cell hb3 (p := ⟨w1.heap.size, 0, none⟩) (cell_block hc')).trans hc'
  obtain ⟨cap4, w4, hrun, hrd, hb4, hc4⟩ := run_bytes_cap w3 HO1.out HNB.out
  have HL4 := Lib.hid (less_is (some ⟨w3.heap.size, 0, none⟩) (some ⟨g2, 0, none⟩) nb m cap4 c2 B l _ _ false w4 hrd ((HR2.out.bel hb3).bel hb4) HNB.out HM.out HNL.out HO5.out)
  clear hrd hc hc'
  go_wp2_with fail
  refine HL4.out.mono ?_
  rintro e w5 ⟨rfl, q, rfl⟩
  go_wp2
  go_ret
  exact ⟨rfl, ((((hbW.trans hb2).trans hb3).trans hb4).drewN q)⟩
end Go.Proofs.YtmghmhhiahmjaaaDoor.U
