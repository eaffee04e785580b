/- What class.Of and class.Mark answer, where the table of spans lies in its variable. -/
import Derived.Test.YtfgpgmfajjakpaaDoorSearch
import Derived.Test.YtfgpgmfajjakpaaDoorRow
namespace Go.Proofs.YtfgpgmfajjakpaaDoor.U
open Go.RowKit
set_option linter.unusedVariables false

def IntG (w : World) (v : Int) (e : Ending) (w' : World) : Prop := e = .returned (.int .i64 v) ∧ Gr w w'
def BoolG (w : World) (b : Bool) (e : Ending) (w' : World) : Prop := e = .returned (.bool b) ∧ Gr w w'

theorem enters36 : ∀ (args : Array Value) (w : World), (callFunc 36 args).run Tryd.prog w = .ok (.enter 36 args) w := enters_of Tryd.func36 (by kernel_rfl) rfl

theorem search_is (r : Int) (b : Nat) (w : World) (h : Sp w) (hb : w.cell? ⟨b, 0, none⟩ = some (.int .i32 r)) :
    Calls Tryd.prog 35 #[.int .i64 40, .func (.func 36) #[] #[.pointer (some ⟨b, 0, none⟩)]] w (SearchPost w 40 (upTo r)) := by
  refine search_any 36 #[.pointer (some ⟨b, 0, none⟩)] 40 (upTo r) w enters36 (by omega) (fun w' i hi hbel => ?_) (fun a b hab hb' hp => upTo_mono hab hb' hp)
  obtain ⟨s, hs⟩ := tab_at hi
  exact test_is r i b s _ w' (h.bel hbel) hs hi ((Below.cell hbel.bel (p := ⟨b, 0, none⟩) (cell_block hb)).trans hb) rfl

set_option maxRecDepth 100000 in
set_option maxHeartbeats 2000000 in
theorem of_is (r v : Int) (w : World) (h : Sp w) (hv : cls r = v) : Calls Tryd.prog 28 #[.int .i32 r] w (IntG w v) := by
  have hmf : ∀ (fn : Fn) (first cap : Array Value) (w : World), (Instr.makeFunc fn first cap).run Tryd.prog w = .ok (.func fn first cap) w := fun _ _ _ _ => rfl
  have hbox := cell_box w (.int .i32 r) 21
  have hS := search_is r w.heap.size _ (h.bel ((Gr.refl w).alloc (.cells #[.int .i32 r] 21))) hbox
  have HB := Lib.hid hbox
  have HH := Lib.hid h
  have HV := Lib.hid hv
  clear h hv hbox
  go_enter Tryd.func28, Tryd.ntmps28
  go_wp2_with (go_at_call 35; refine hS.mono ?_; rintro e w1 ⟨i, rfl, hi, HI, hb1⟩)
  have hb2 : Gr w w1 := ((Gr.refl w).alloc _).trans hb1
  have c0 : w1.cell? ⟨w.heap.size, 0, none⟩ = some (.int .i32 r) := (Below.cell hb1.bel (p := ⟨w.heap.size, 0, none⟩) (cell_block HB.out)).trans HB.out
  clear hS
  by_cases h40 : i = 40
  · subst h40
    have e0 := HV.out
    rw [cls_past fun t ht => HI.out.1 t ht] at e0
    subst e0
    go_quiet (fail)
    go_wp2
    go_ret
    exact ⟨rfl, hb2.drewN _⟩
  · have hlt : i < 40 := by omega
    obtain ⟨s, hs⟩ := tab_at hlt
    obtain ⟨d0, d1, d2, d3⟩ := (HH.out.bel hb2).at hs
    have q0 : (0 : Int) ≤ (i : Int) := by omega
    have q1 : (i : Int) < 40 := by omega
    have q2 : ((i : Int) == 40) = false := by simp; omega
    have hrow := tab_row hs
    have hmid := fun (w : World) (hc : w.rangeAt 0 (i * 4) (row4 s)) => run_loadAt_mid (P := Tryd.prog) w 0 (i * 4) 56 (row4 s) _ hc Tryd.underlying56 rfl (by kernel_rfl)
    by_cases hr : r < s.1
    · have e0 := HV.out
      rw [cls_ahead hs HI.out.1 hr] at e0
      subst e0
      have hd : decide (r < s.1) = true := by simpa using hr
      go_quiet (fail)
      go_wp2
      go_ret
      exact ⟨rfl, hb2.drewN _⟩
    · have hu := HI.out.2 i (Nat.le_refl _) hlt
      have e0 := HV.out
      rw [cls_in hs HI.out.1 hu hr] at e0
      rw [upTo_is hs] at hu
      have hle : r ≤ s.2.1 := by simpa using hu
      have hd : decide (r < s.1) = false := by simpa using hr
      have hC := fun w => classOf_is s r v w hrow ⟨by omega, hle⟩ e0
      clear hu hle e0
      go_quiet (fail)
      go_wp2
      have hb4 : Gr w (w1.drewN nq) := hb2.drewN nq
      have e0 : (w1.drewN nq).cell? ⟨w.heap.size, 0, none⟩ = some (.int .i32 r) := c0
      have e1 : (w1.drewN nq).cell? ⟨0, i * 4, none⟩ = some (.int .i32 s.1) := d0
      have e2 : (w1.drewN nq).cell? ⟨0, i * 4 + 1, none⟩ = some (.int .i32 s.2.1) := d1
      have e3 : (w1.drewN nq).cell? ⟨0, i * 4 + 2, none⟩ = some (.int .u8 s.2.2.1) := d2
      have e4 : (w1.drewN nq).cell? ⟨0, i * 4 + 3, none⟩ = some (.int .u8 s.2.2.2) := d3
      generalize w1.drewN nq = w2 at hb4 e0 e1 e2 e3 e4 ⊢
      clear c0 d0 d1 d2 d3 hb1 hb2 HB HI hmid HH
      go_region_with (go_at_call 37; refine (hC _).mono ?_; rintro e w3 ⟨rfl, hb3⟩)
      all_goals go_wp2
      all_goals go_ret
      all_goals exact ⟨rfl, hb4.drew.trans hb3⟩

theorem mark_is (r : Int) (b : Bool) (w : World) (h : Sp w) (hb : decide (0 < cls r) = b) : Calls Tryd.prog 23 #[.int .i32 r] w (BoolG w b) := by
  have H := Lib.hid (of_is r (cls r) w h rfl)
  subst hb
  generalize cls r = v at H ⊢
  clear h
  go_enter Tryd.func23, Tryd.ntmps23
  go_wp2_with (go_at_call 28; (with_reducible refine H.out.mono ?_); rintro e w1 ⟨rfl, hb⟩)
  go_ret
  exact ⟨by first | rfl | (refine ret_bool ?_; simp), hb⟩
end Go.Proofs.YtfgpgmfajjakpaaDoor.U
