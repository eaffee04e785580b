/- SetsApart's walk: it answers true, where the table of last bytes lies in its variable. -/
import Derived.Test.YtmghmhhiahmjaaaDoorDes
import Derived.Test.YtmghmhhiahmjaaaDoorNext
namespace Go.Proofs.YtmghmhhiahmjaaaDoor.U
open Go.RowKit
set_option linter.unusedVariables false

/-- What Designate answers, if there is an escape or none. -/
def Des (w : World) (side set : Int) (ok : Bool) (e : Ending) (w' : World) : Prop :=
  ∃ A n c, e = .returned (.tuple #[.slice A n c, .bool ok]) ∧ Bel w w' ∧ (ok = true → (∃ g, A = some ⟨g, 0, none⟩ ∧ Rd w' w'.heap.size .u8 (some ⟨g, 0, none⟩) (desL side set)) ∧ (desL side set).length = n ∧ n ≤ c)
theorem des_any (side set : Int) (ok : Bool) (w : World) (hT : Tb w) (h : decide (Valid side set) = ok) : Calls Tryd.prog 7 #[.int .i64 side, .int .i64 set] w (Des w side set ok) := by
  subst h
  by_cases hv : Valid side set
  · rw [decide_eq_true hv]
    exact (des_yes side set _ _ w hT hv rfl rfl).mono fun e w' ⟨g, c, h1, h2, h3, h4⟩ => ⟨_, _, _, h1, h4, fun _ => ⟨⟨g, rfl, h3⟩, rfl, h2⟩⟩
  · rw [decide_eq_false hv]
    exact (des_no side set w hv).mono fun e w' ⟨h1, h2⟩ => ⟨_, _, _, h1, h2, fun h => by cases h⟩

set_option maxRecDepth 100000 in
set_option maxHeartbeats 4000000 in
theorem apart_no (a b c d s1 s2 A C : Int) (ok1 ok2 : Bool) (w : World) (hT : Tb w) (ha : 0 ≤ a ∧ a < 256) (hb : 0 ≤ b ∧ b < 256) (hc : 0 ≤ c ∧ c < 256) (hd : 0 ≤ d ∧ d < 256)
    (ea : a % 2 = A) (eb : b % 14 = s1) (ec : c % 2 = C) (ed : d % 14 = s2) (h1 : decide (Valid A s1) = ok1) (h2 : decide (Valid C s2) = ok2) (hn : (ok1 && ok2) = false) :
    Calls Tryd.prog 4 #[.int .u8 a, .int .u8 b, .int .u8 c, .int .u8 d] w fun e w' => e = .returned (.bool true) ∧ Bel w w' := by
  have HT := Lib.hid hT
  have H1 := Lib.hid h1
  have H2 := Lib.hid h2
  obtain ⟨ha0, ha1⟩ := ha
  obtain ⟨hb0, hb1⟩ := hb
  obtain ⟨hc0, hc1⟩ := hc
  obtain ⟨hd0, hd1⟩ := hd
  clear hT h1 h2
  rcases ok1 with _ | _ <;> rcases ok2 with _ | _
  case true.true => cases hn
  all_goals
    clear hn
    go_enter Tryd.func4, Tryd.ntmps4
    go_wp2_with fail
    refine (des_any A s1 _ w HT.out H1.out).mono ?_
    rintro e w1 ⟨A1, n1, c1, rfl, hb1, _⟩
    go_wp2_with fail
    refine (des_any C s2 _ w1 (HT.out.bel hb1) H2.out).mono ?_
    rintro e w2 ⟨A2, n2, c2, rfl, hb2, _⟩
    go_wp2_with fail
    refine (answers_any w2 ((HT.out.bel hb1).bel hb2)).mono ?_
    rintro e w3 ⟨rfl, hb3⟩
    go_wp2_with fail
    refine (answers_any w3 (((HT.out.bel hb1).bel hb2).bel hb3)).mono ?_
    rintro e w4 ⟨rfl, hb4⟩
    go_wp2
    go_ret
    exact ⟨rfl, ((hb1.trans hb2).trans hb3).trans hb4⟩
end Go.Proofs.YtmghmhhiahmjaaaDoor.U
