/- What 'character' answers of a word of at most four bytes: digits' number, or the first character. Tables as they are laid. -/
import Derived.Test.YtilmmnobfompiaaDoorParse
import Derived.Test.YtilmmnobfompiaaDoorShelf
import Derived.Test.YtilmmnobfompiaaDoorText
namespace Go.Proofs.YtilmmnobfompiaaDoor.U
open Go.RowKit
set_option linter.unusedVariables false

theorem okW_true {x : List UInt8} (h : okW x = true) : x.length ≤ 4 ∧ (x.length = 4 → (∀ c ∈ nm x, isD c = true) ∧ num (nm x) < 65536) := by
  simp only [okW, Bool.and_eq_true, Bool.or_eq_true, decide_eq_true_eq, List.all_eq_true] at h
  exact ⟨h.1, fun e => h.2.resolve_left (fun h => h e)⟩
theorem nm_length (x : List UInt8) : (nm x).length = x.length := by simp [nm]

set_option maxHeartbeats 1000000 in
theorem char_is (x : List UInt8) (w : World) (hx : okW x = true) (hT : Tz w) :
    Calls Tryd.prog 15 #[.string ⟨x.toArray⟩] w fun e w' => e = .returned (.int .i32 (chr x)) ∧ Bel w w' := by
  obtain ⟨h4, hD⟩ := okW_true hx
  have hs : (⟨x.toArray⟩ : ByteArray).size = x.length := size_of x
  by_cases e4 : x.length = 4
  · obtain ⟨hd, hn⟩ := hD e4
    have HP := Lib.hid (fun w => hex_is (nm x) w hd (by rw [nm_length]; omega) (by rw [nm_length]; omega) hn)
    have hc : chr x = num (nm x) := if_pos e4
    rw [hc]
    rw [str_nm] at HP
    rw [e4] at hs
    generalize num (nm x) = v at HP ⊢
    generalize (⟨x.toArray⟩ : ByteArray) = S at HP hs ⊢
    clear hc hd hn hD hx h4 e4
    go_enter Tryd.func15, Tryd.ntmps15
    go_wp2_with (go_at_call 14; (with_reducible refine (HP.out _).mono ?_); rintro e w' ⟨rfl, hb⟩)
    go_ret
    exact ⟨rfl, hb⟩
  · have HP := Lib.hid (fun w (h : Tz w) => utf8_DecodeRuneInString ⟨x.toArray⟩ w h.2.1)
    have HT := Lib.hid hT
    have hc : chr x = ((Lib.decodeGo ⟨x.toArray⟩).1 : Int) := if_neg e4
    have hne : ¬ ((⟨x.toArray⟩ : ByteArray).size : Int) = 4 := by rw [hs]; omega
    rw [hc]
    generalize (Lib.decodeGo ⟨x.toArray⟩).1 = v at HP ⊢
    generalize (Lib.decodeGo ⟨x.toArray⟩).2 = v2 at HP ⊢
    generalize (⟨x.toArray⟩ : ByteArray) = S at HP hs hne ⊢
    clear hc hD hx h4 e4 hT hs
    go_enter Tryd.func15, Tryd.ntmps15
    go_wp2_with (go_at_call 22; (with_reducible refine (HP.out _ HT.out).mono ?_); rintro e w' ⟨rfl, hb⟩)
    go_ret
    exact ⟨rfl, hb⟩
end Go.Proofs.YtilmmnobfompiaaDoor.U
