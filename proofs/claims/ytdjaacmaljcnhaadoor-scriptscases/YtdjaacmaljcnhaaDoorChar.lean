/- What 'character' answers of a word of at most four bytes: the one character that it is, or digits' number. Tables as they are laid. -/
import Derived.Test.YtdjaacmaljcnhaaDoorParse
import Derived.Test.YtdjaacmaljcnhaaDoorShelf
import Derived.Test.YtdjaacmaljcnhaaDoorText
namespace Go.Proofs.YtdjaacmaljcnhaaDoor.U
open Go.RowKit
set_option linter.unusedVariables false

theorem okW_true {x : List UInt8} (h : okW x = true) : 1 ≤ x.length ∧ x.length ≤ 4 ∧ (¬ (Lib.decodeGo ⟨x.toArray⟩).2 = x.length → (∀ c ∈ nm x, isD c = true) ∧ num (nm x) < 65536) := by
  simp only [okW, Bool.and_eq_true, Bool.or_eq_true, decide_eq_true_eq, List.all_eq_true, beq_iff_eq] at h
  exact ⟨h.1.1, h.1.2, fun e => h.2.resolve_left e⟩
theorem nm_length (x : List UInt8) : (nm x).length = x.length := by simp [nm]

set_option maxHeartbeats 1000000 in
theorem char_is (x : List UInt8) (w : World) (hx : okW x = true) (hT : Tz w) :
    Calls Tryd.prog 22 #[.string ⟨x.toArray⟩] w fun e w' => e = .returned (.int .i32 (chr x)) ∧ Bel w w' := by
  obtain ⟨h1, h4, hD⟩ := okW_true hx
  have hs : (⟨x.toArray⟩ : ByteArray).size = x.length := size_of x
  have HD := Lib.hid (fun w (h : Tz w) => utf8_DecodeRuneInString ⟨x.toArray⟩ w h.2.1)
  have HT := Lib.hid hT
  by_cases e4 : (Lib.decodeGo ⟨x.toArray⟩).2 = x.length
  · have hc : chr x = ((Lib.decodeGo ⟨x.toArray⟩).1 : Int) := if_pos e4
    rw [hc]
    rw [← hs] at e4
    have he : (((Lib.decodeGo ⟨x.toArray⟩).2 : Int) == ((⟨x.toArray⟩ : ByteArray).size : Int)) = true := by rw [e4]; simp
    generalize (Lib.decodeGo ⟨x.toArray⟩).1 = v at HD ⊢
    generalize (Lib.decodeGo ⟨x.toArray⟩).2 = v2 at HD he ⊢
    generalize (⟨x.toArray⟩ : ByteArray) = S at HD he ⊢
    clear hc hD hx h1 h4 e4 hT hs
    go_enter Tryd.func22, Tryd.ntmps22
    go_wp2_with (go_at_call 31; (with_reducible refine (HD.out _ HT.out).mono ?_); rintro e w' ⟨rfl, hb⟩)
    go_ret
    exact ⟨rfl, hb⟩
  · obtain ⟨hd, hn⟩ := hD e4
    have HP := Lib.hid (fun w => hex_is (nm x) w hd (by rw [nm_length]; omega) (by rw [nm_length]; omega) hn)
    have hc : chr x = num (nm x) := if_neg e4
    rw [hc]
    rw [str_nm] at HP
    rw [← hs] at e4
    have he : (((Lib.decodeGo ⟨x.toArray⟩).2 : Int) == ((⟨x.toArray⟩ : ByteArray).size : Int)) = false := by simp; omega
    generalize num (nm x) = v at HP ⊢
    generalize (Lib.decodeGo ⟨x.toArray⟩).1 = v1 at HD
    generalize (Lib.decodeGo ⟨x.toArray⟩).2 = v2 at HD he
    generalize (⟨x.toArray⟩ : ByteArray) = S at HP HD he ⊢
    clear hc hd hn hD hx h1 h4 e4 hT hs
    go_enter Tryd.func22, Tryd.ntmps22
    go_wp2_with (go_at_call 31; (with_reducible refine (HD.out _ HT.out).mono ?_); rintro e w' ⟨rfl, hb⟩)
    go_wp2_with (go_at_call 26; (with_reducible refine (HP.out _).mono ?_); rintro e w'' ⟨rfl, hb2⟩)
    go_ret
    exact ⟨rfl, Bel.trans hb hb2⟩
end Go.Proofs.YtdjaacmaljcnhaaDoor.U
