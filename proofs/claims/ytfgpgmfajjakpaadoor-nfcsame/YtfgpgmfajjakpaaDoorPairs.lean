/- What pairs.Split answers. -/
import Derived.Test.YtfgpgmfajjakpaaDoorFind
namespace Go.Proofs.YtfgpgmfajjakpaaDoor.U
open Go.RowKit
set_option linter.unusedVariables false

theorem spl_row {t : Row3} {a b n : Int} (ht : t ∈ tabS) (h : Spl t.1 a b n) : a = t.2.1 ∧ b = t.2.2 ∧ n = if t.2.2 = 0 then 1 else 2 := by
  rcases h with ⟨u, hu, h1, rfl, rfl, hn⟩ | ⟨h, _⟩
  · obtain rfl := key_one hu ht h1
    exact ⟨rfl, rfl, hn⟩
  · exact absurd rfl (h t ht)
theorem spl_no {r a b n : Int} (hno : ∀ t ∈ tabS, kS t ≠ r) (h : Spl r a b n) : a = 0 ∧ b = 0 ∧ n = 0 := by
  rcases h with ⟨u, hu, h1, _⟩ | ⟨_, h⟩
  · exact absurd h1 (hno u hu)
  · exact h
theorem inS {t : Row3} (h : t ∈ tabS) : in16 t = true := List.all_eq_true.1 in16S t h

def SplIs (w : World) (a b n : Int) (e : Ending) (w' : World) : Prop := e = .returned (.tuple #[.int .i32 a, .int .i32 b, .int .i64 n]) ∧ Bel w w'

set_option maxHeartbeats 4000000 in
theorem split_is (r a b n : Int) (w : World) (h : Spl r a b n) : Calls Tryd.prog 31 #[.int .i32 r] w (SplIs w a b n) := by
  have hmf : ∀ (fn : Fn) (first cap : Array Value) (w : World), (Instr.makeFunc fn first cap).run Tryd.prog w = .ok (.func fn first cap) w := fun _ _ _ _ => rfl
  have hb1 : Bel w (w.alloc (.cells #[.int .i32 r] 21)) := (Bel.refl w).alloc _
  have hF := find_is splitsS tabS 572 kS r 49 #[.pointer (some ⟨w.heap.size, 0, none⟩)] (w.alloc (.cells #[.int .i32 r] 21)) txtS tabS_len (by omega) upS enters49
    (fun w' L t ht hl hb => sideS_is r _ w.heap.size L t w' hl (inS ht) (cell_bel (cell_box w (.int .i32 r) 21) hb) rfl)
  have HF := Lib.hid hF
  have HS := Lib.hid h
  have HB := Lib.hid hb1
  clear hF h hb1
  refine calls_of_wp Tryd.func31 body4 ?_
  generalize splitsS = S at HF ⊢
  generalize posAt Tryd.f31 = p
  unfold code4
  simp only [Tryd.ntmps31, List.size_toArray, List.length_cons, List.length_nil, Nat.reduceAdd, Nat.reduceSub, Array.replicate_succ, Array.replicate_zero, List.push_toArray, List.append_toArray, List.nil_append, List.cons_append]
  go_wp2_with fail
  refine HF.out.mono ?_
  rintro e w3 ⟨L, ok, rfl, HE, hb3⟩
  have hb4 := HB.out.trans hb3
  rcases HE.out with ⟨rfl, t, ht, hk, hl⟩ | ⟨rfl, hno⟩
  · have hk' : t.1 = r := hk
    subst hk'
    obtain ⟨ea, eb, hn⟩ := spl_row ht HS.out
    have H1 : Hid (∀ w, Calls Tryd.prog 42 #[.string L] w (RuneIs w a)) := Lib.hid fun w => by rw [ea]; exact first_is L t w hl (inS ht)
    have H2 : Hid (∀ w, Calls Tryd.prog 43 #[.string L] w (RuneIs w b)) := Lib.hid fun w => by rw [eb]; exact second_is L t w hl (inS ht)
    have H3 := Lib.hid (fun w => parts_is L t n w hl (inS ht) hn)
    clear ea eb hn hl ht HE HF HS HB hk hb3
    go_wp2_with (first | (go_at_call 42; refine (H1.out _).mono ?_; rintro e w4 ⟨rfl, h4⟩) | (go_at_call 43; refine (H2.out _).mono ?_; rintro e w5 ⟨rfl, h5⟩) | (go_at_call 50; refine (H3.out _).mono ?_; rintro e w6 ⟨rfl, h6⟩))
    go_ret3
    exact ⟨rfl, ((hb4.trans h4).trans h5).trans h6⟩
  · obtain ⟨rfl, rfl, rfl⟩ := spl_no hno HS.out
    clear hno HE HF HS HB hb3
    go_wp2
    go_ret3
    exact ⟨rfl, hb4⟩

end Go.Proofs.YtfgpgmfajjakpaaDoor.U
