/- NcrPrints answers true at every number and every list; nothing that was there is changed. The library's table of trailing zeros must hold what it holds. -/
import Derived.Test.YtfggeofknmdmfaaDoorAns
namespace Go.Proofs.YtfggeofknmdmfaaDoor.U
open Go.RowKit
set_option linter.unusedVariables false

/-- A row of the call's own as a slice, its length a letter. -/
theorem Own.rdn {w : World} {base : Nat} {e : TypeId} {k : IntKind} {v : Value} {l : List Int} {n : Nat} (h : Own w base e k v l) (hn : l.length = n) :
    ∃ A cap, v = .slice A n cap ∧ n ≤ cap ∧ Rd w w.heap.size k A l ∧ (A = none → cap = 0) := by
  subst hn; exact h.rd
def ScanIs (w : World) (v : Int) (n : Nat) (e : Ending) (w' : World) : Prop := e = .returned (.tuple #[.int .i32 v, .int .i64 n]) ∧ Bel w w'
theorem scan_is (A : Option Addr) (n c : Nat) (l : List Int) (v : Int) (k : Nat) (w : World) {B : Nat} (h : Rd w B .i32 A l) (hn : l.length = n) (hcap : n ≤ c) (hbig : n ≤ 1000000) (hs : Scans l v k) :
    Calls Tryd.prog 13 #[.slice A n c] w (ScanIs w v k) := by
  refine (scan_any A n c l B w h hn hcap hbig).mono ?_
  rintro e w' ⟨v', k', rfl, hS, hb⟩
  obtain ⟨rfl, rfl⟩ := scans_one hS hs
  exact ⟨rfl, hb⟩
def SlicePost (w : World) (l : List Int) (n : Nat) (e : Ending) (w' : World) : Prop := ∃ A cap, e = .returned (.slice A n cap) ∧ n ≤ cap ∧ Own w' w.heap.size 5 .u8 (.slice A n cap) l ∧ Rd w' w'.heap.size .u8 A l ∧ (A = none → cap = 0) ∧ Bel w w'
theorem ref_is (r : Int) (n : Nat) (w : World) (hn : (refL r).length = n) : Calls Tryd.prog 12 #[.int .i32 r] w (SlicePost w (refL r) n) := by
  refine (ref_any r w).mono ?_
  rintro e w' ⟨v, rfl, hown, hb⟩
  obtain ⟨A, cap, rfl, h1, h2, h3⟩ := hown.rdn hn
  exact ⟨A, cap, rfl, h1, hown, h2, h3, hb⟩

set_option maxRecDepth 100000 in
set_option maxHeartbeats 2000000 in
theorem walk_prints (c : Int) (A : Option Addr) (n cap : Nat) (l : List Int) (w : World) (hT : Tz w) (h : Came .i32 w A n cap l) :
    Calls Tryd.prog 3 #[.int .i32 c, .slice A n cap] w fun e w' => e = .returned (.bool true) ∧ Bel w w' := by
  obtain ⟨i0, hi0, hz0, hz1, hz2⟩ := info_parts info21
  obtain ⟨hl, hc, hrd, hnil, _⟩ := h
  have HT := Lib.hid hT
  have HL := Lib.hid hl
  have HR := Lib.hid hrd
  have HN := Lib.hid hnil
  clear hT hl hrd hnil
  by_cases hbig : 300 < n
  · go_enter Tryd.func3, Tryd.ntmps3
    go_wp2_with (go_at_call 8; (with_reducible refine (answers_any _ HT.out).mono ?_); rintro e w4 ⟨rfl, hb4⟩)
    go_ret
    exact ⟨rfl, hb4⟩
  · obtain ⟨b, hb⟩ : ∃ b, scB c = b := ⟨_, rfl⟩
    obtain ⟨m, hm⟩ : ∃ m, (refL c).length = m := ⟨_, rfl⟩
    have hm10 := ref_len_le c
    rw [hm] at hm10
    have HM := Lib.hid hm
    have HS := Lib.hid hb
    clear hm hb
    go_enter Tryd.func3, Tryd.ntmps3
    go_wp2_with fail
    refine (print_any c b w HT.out HS.out).mono ?_
    rintro e w1 ⟨v1, rfl, hown1, hb1⟩
    obtain ⟨A1, cap1, rfl, hcap1, hrd1, hnil1⟩ := hown1.rdn HM.out
    have HR1 := Lib.hid hrd1
    clear hrd1 hnil1 hown1
    go_wp2_with fail
    refine (answers_any w1 (HT.out.bel hb1)).mono ?_
    rintro e w2 ⟨rfl, hb2⟩
    go_wp2_with (go_at_call 10; (with_reducible refine (rscalar_is _ b _ HS.out).mono ?_); rintro e w' ⟨rfl, rfl⟩)
    refine (ref_is c m w2 HM.out).mono ?_
    rintro e w3 ⟨A3, cap3, rfl, hcap3, hown3, hrd3, hnil3, hb3⟩
    have HR13 := Lib.hid ((HR1.out.bel hb2).bel hb3)
    clear hown3 hnil3
    go_wp2_with fail
    refine (same_is A1 A3 m m cap1 cap3 (refL c) (refL c) _ _ true w3 HR13.out hrd3 HM.out HM.out (by omega) (by simp)).mono ?_
    rintro e w4 ⟨rfl, q, rfl⟩
    have hb4 : Bel w (w3.drewN q) := ((hb1.trans hb2).trans hb3).drewN q
    have hr4 : Rd (w3.drewN q) w1.heap.size .u8 A1 (refL c) := HR13.out
    clear HR13 hrd3
    generalize w3.drewN q = W4 at hb4 hr4 ⊢
    rcases b with _ | _
    · go_wp2
      go_ret
      exact ⟨rfl, hb4⟩
    · have hm8 := ref_pos HS.out
      rw [HM.out] at hm8
      obtain ⟨g1, o1, rfl, _, _⟩ := hr4.isSome (by rw [HM.out]; omega)
      have hrun := fun c => run_str_bytes (P := Tryd.prog) W4 24 9 5 Tryd.underlying24 Tryd.underlying5 Tryd.underlying9 (c := c) hr4 HM.out (asc_byte (ref_asc _))
      obtain ⟨cap5, W5, hrun5, hown5, hb5⟩ := run_runes_str (P := Tryd.prog) W4 9 22 21 Tryd.underlying9 Tryd.underlying22 Tryd.underlying21 (ref_asc c) HM.out (by omega)
      have HO5 := Lib.hid hown5
      have HR5 := Lib.hid ((HR.out.bel hb4).bel hb5)
      have hsz5 := Below.size hb5
      have hmm : ((m : Int) == (m : Int)) = true := by simp
      have hcc : (c == c) = true := by simp
      generalize str (refL c) = S at hrun hrun5
      clear hown5 hr4
      go_wp2_with (first
        | (at_builtin; refine wpl_append (by rfl) (.tmp 38) (.tmp 39) 22 rfl Tryd.underlying22 hi0 hz0 hz1 hz2 rfl (by omega) HO5.out rfl HR5.out rfl HL.out HN.out (by rw [HM.out]; omega) hsz5 ?_; intro v6 w6 hown6 hb6)
        | fail)
      have hb46 : Bel W4 w6 := Below.trans hb5 hb6
      obtain ⟨A6, cap6, rfl, hcap6, hrd6, hnil6⟩ := hown6.rdn (n := m + n) (by rw [List.length_append, HM.out, HL.out])
      refine (scan_is A6 (m + n) cap6 (refL c ++ l) c m w6 hrd6 (by rw [List.length_append, HM.out, HL.out]) hcap6 (by omega) (by have := scans_ref HS.out l; rwa [HM.out] at this)).mono ?_
      rintro e w7 ⟨rfl, hb7⟩
      clear hrd6 hown6 hnil6
      go_wp2
      go_ret
      exact ⟨rfl, (hb4.trans hb46).trans hb7⟩
end Go.Proofs.YtfggeofknmdmfaaDoor.U
