/- What sort.Search answers, of a test that only draws. -/
import Derived.Test.YtfgpgmfajjakpaaDoorLeaf
import Derived.Shelf.Abstract
namespace Go.Proofs.YtfgpgmfajjakpaaDoor.U
open Go.RowKit
set_option linter.unusedVariables false

def SearchPost (w : World) (n : Nat) (p : Nat → Bool) (e : Ending) (w' : World) : Prop :=
  ∃ i : Nat, e = .returned (.int .i64 i) ∧ i ≤ n ∧ Hid ((∀ t, t < i → p t = false) ∧ ∀ t, i ≤ t → t < n → p t = true) ∧ Gr w w'
def SearchRel (w : World) (n : Nat) (p : Nat → Bool) (lo hi : Value) (w' : World) : Prop :=
  ∃ a b : Nat, lo = .int .i64 a ∧ hi = .int .i64 b ∧ a ≤ b ∧ b ≤ n ∧ Hid ((∀ t, t < a → p t = false) ∧ ∀ t, b ≤ t → t < n → p t = true) ∧ Gr w w'

set_option maxHeartbeats 2000000 in
theorem search_any (g : Nat) (cb : Array Value) (n : Nat) (p : Nat → Bool) (w : World) (eg : ∀ args w, (callFunc g args).run Tryd.prog w = .ok (.enter g args) w) (hn : n < 1000000)
    (hf : ∀ (w' : World) (i : Nat), i < n → Gr w w' → Calls Tryd.prog g (#[.int .i64 i] ++ cb) w' fun e w'' => e = .returned (.bool (p i)) ∧ Gr w' w'')
    (hmono : ∀ a b, a ≤ b → b < n → p a = true → p b = true) :
    Calls Tryd.prog 35 #[.int .i64 n, .func (.func g) #[] cb] w (SearchPost w n p) := by
  have HF := Lib.hid hf
  have HM := Lib.hid hmono
  clear hf hmono
  go_enter Tryd.func35, Tryd.ntmps35
  go_wp2
  go_loopw [5, 6] (fun lo hi wr => SearchRel w n p lo hi wr) (fun lo hi _ => (intOf hi).toNat - (intOf lo).toNat)
  case atStart => exact ⟨0, n, rfl, rfl, Nat.zero_le _, Nat.le_refl _, Lib.hid ⟨fun t ht => by omega, fun t h1 h2 => by omega⟩, Gr.refl _⟩
  case round =>
    obtain ⟨a, b, rfl, rfl, hab, hbn, HI, hbw⟩ := hrel
    by_cases hlt : a < b
    · obtain ⟨m, hm⟩ : ∃ m, m = (a + b) / 2 := ⟨_, rfl⟩
      have hc := HF.out wr m (by omega) hbw
      have em : ((a : Int) + (b : Int)) / 2 = (m : Int) := by omega
      cases hp : p m <;> rw [hp] at hc
      · have HP := Lib.hid hp
        have h1 : a ≤ m := by omega
        have h2 : m < b := by omega
        clear hp hm
        go_wp2_with (go_at_fn g; refine hc.mono ?_; rintro e w' ⟨rfl, hb1⟩)
        go_roundw
        case rel =>
          refine ⟨m + 1, b, by go_num, rfl, by omega, hbn, Lib.hid ⟨fun t ht => ?_, HI.out.2⟩, hbw.trans hb1⟩
          cases h : p t with
          | false => rfl
          | true => have := HM.out t m (by omega) (by omega) h; rw [HP.out] at this; cases this
        case measure => simp [intOf]; omega
      · have HP := Lib.hid hp
        have h1 : a ≤ m := by omega
        have h2 : m < b := by omega
        clear hp hm
        go_wp2_with (go_at_fn g; refine hc.mono ?_; rintro e w' ⟨rfl, hb1⟩)
        go_roundw
        case rel => exact ⟨a, m, rfl, by go_num, by omega, by omega, Lib.hid ⟨HI.out.1, fun t ht htn => HM.out m t ht htn HP.out⟩, hbw.trans hb1⟩
        case measure => simp [intOf]; omega
    · obtain rfl : b = a := by omega
      go_wp2
      go_ret
      exact ⟨b, rfl, hbn, HI, hbw⟩

end Go.Proofs.YtfgpgmfajjakpaaDoor.U
