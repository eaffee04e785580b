/- What pairs.Join answers. -/
import Derived.Test.YtfgpgmfajjakpaaDoorSideJ
namespace Go.Proofs.YtfgpgmfajjakpaaDoor.U
open Go.RowKit
set_option linter.unusedVariables false

theorem enters39 : ∀ (args : Array Value) (w : World), (callFunc 39 args).run Tryd.prog w = .ok (.enter 39 args) w := enters_of Tryd.func39 (by kernel_rfl) rfl
def JoiIs (w : World) (r : Int) (ok : Bool) (e : Ending) (w' : World) : Prop := e = .returned (.tuple #[.int .i32 r, .bool ok]) ∧ Bel w w'

set_option maxHeartbeats 4000000 in
theorem pjoin_is (a b r : Int) (ok : Bool) (w : World) (h : Joi a b r ok) : Calls Tryd.prog 29 #[.int .i32 a, .int .i32 b] w (JoiIs w r ok) := by
  have hmf : ∀ (fn : Fn) (first cap : Array Value) (w : World), (Instr.makeFunc fn first cap).run Tryd.prog w = .ok (.func fn first cap) w := fun _ _ _ _ => rfl
  have hb1 : Bel w ((w.alloc (.cells #[.int .i32 a] 21)).alloc (.cells #[.int .i32 b] 21)) := ((Bel.refl w).alloc _).alloc _
  have c1 : ((w.alloc (.cells #[.int .i32 a] 21)).alloc (.cells #[.int .i32 b] 21)).cell? ⟨w.heap.size, 0, none⟩ = some (.int .i32 a) := cell_bel (cell_box w (.int .i32 a) 21) ((Bel.refl _).alloc _)
  have c2 : ((w.alloc (.cells #[.int .i32 a] 21)).alloc (.cells #[.int .i32 b] 21)).cell? ⟨w.heap.size + 1, 0, none⟩ = some (.int .i32 b) := by
    have := cell_box (w.alloc (.cells #[.int .i32 a] 21)) (.int .i32 b) 21
    rwa [show (w.alloc (.cells #[.int .i32 a] 21)).heap.size = w.heap.size + 1 by simp] at this
  have hF := find_is joinsS tabJ 560 kJ (kP a b) 39 #[.pointer (some ⟨w.heap.size, 0, none⟩), .pointer (some ⟨w.heap.size + 1, 0, none⟩)] _ txtJ tabJ_len (by omega) upJ enters39
    (fun w' L t ht hl hb' => sideJ_is a b _ w.heap.size (w.heap.size + 1) L t w' hl (inJ ht) (cell_bel c1 hb') (cell_bel c2 hb') (sgnJ (inJ ht)))
  have HF := Lib.hid hF
  have HS := Lib.hid h
  have HB := Lib.hid hb1
  clear hF h hb1 c1 c2
  refine calls_of_wp Tryd.func29 body5 ?_
  generalize joinsS = S at HF ⊢
  generalize posAt Tryd.f29 = p
  unfold code5
  simp only [Tryd.ntmps29, List.size_toArray, List.length_cons, List.length_nil, Nat.reduceAdd, Nat.reduceSub, Array.replicate_succ, Array.replicate_zero, List.push_toArray, List.append_toArray, List.nil_append, List.cons_append]
  go_wp2_with fail
  refine HF.out.mono ?_
  rintro e w3 ⟨L, f, rfl, HE, hb3⟩
  have hb4 := HB.out.trans hb3
  rcases HE.out with ⟨rfl, t, ht, hk, hl⟩ | ⟨rfl, hno⟩
  · obtain ⟨ha, hb'⟩ := kJ_inj (inJ ht) hk
    obtain ⟨er, rfl⟩ := joi_row ht ha hb' HS.out
    have H1 : Hid (∀ w, Calls Tryd.prog 44 #[.string L] w (RuneIs w r)) := Lib.hid fun w => by rw [er]; exact whole_is L t w hl (inJ ht)
    clear er hl ht HE HF HS HB hk hb3 ha hb'
    go_wp2_with (go_at_call 44; refine (H1.out _).mono ?_; rintro e w4 ⟨rfl, h4⟩)
    go_ret2
    exact ⟨rfl, hb4.trans h4⟩
  · obtain ⟨rfl, rfl⟩ := joi_none hno HS.out
    clear hno HE HF HS HB hb3
    go_wp2
    go_ret2
    exact ⟨rfl, hb4⟩

end Go.Proofs.YtfgpgmfajjakpaaDoor.U
