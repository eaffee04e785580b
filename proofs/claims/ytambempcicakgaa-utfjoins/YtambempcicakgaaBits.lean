/- Bits of bytes and of characters as sums, quotients and rests: small facts, each under the bounds that it names. -/
import Derived.Laws.Entries
import Derived.Laws.BitsAllLaws
namespace Go.Proofs.Ytambempcicakgaa.U

theorem fin_all {p : Int → Prop} {n : Nat} (h : ∀ x : Fin n, p (x.val : Int)) {x : Int} (h0 : 0 ≤ x) (h1 : x < n) : p x := by
  have := h ⟨x.toNat, by omega⟩
  have e : ((x.toNat : Nat) : Int) = x := Int.toNat_of_nonneg h0
  simpa [e] using this

theorem or192 {x : Int} (h0 : 0 ≤ x) (h1 : x < 32) : bits .or .u8 192 x = 192 + x := fin_all (p := fun x => bits .or .u8 192 x = 192 + x) (n := 32) (by decide +kernel) h0 h1
theorem or224 {x : Int} (h0 : 0 ≤ x) (h1 : x < 16) : bits .or .u8 224 x = 224 + x := fin_all (p := fun x => bits .or .u8 224 x = 224 + x) (n := 16) (by decide +kernel) h0 h1
theorem or240 {x : Int} (h0 : 0 ≤ x) (h1 : x < 8) : bits .or .u8 240 x = 240 + x := fin_all (p := fun x => bits .or .u8 240 x = 240 + x) (n := 8) (by decide +kernel) h0 h1
theorem or0 {x : Int} (h0 : 0 ≤ x) (h1 : x < 256) : bits .or .u8 0 x = x := fin_all (p := fun x => bits .or .u8 0 x = x) (n := 256) (by decide +kernel) h0 h1
theorem or128 {x : Int} (h0 : 0 ≤ x) (h1 : x < 64) : bits .or .u8 128 x = 128 + x := fin_all (p := fun x => bits .or .u8 128 x = 128 + x) (n := 64) (by decide +kernel) h0 h1
theorem and63 {x : Int} (h0 : 0 ≤ x) (h1 : x < 256) : bits .and .u8 x 63 = x % 64 := fin_all (p := fun x => bits .and .u8 x 63 = x % 64) (n := 256) (by decide +kernel) h0 h1
theorem less0 {x : Int} (h0 : 0 ≤ x) (h1 : x < 256) : bits .andNot .u8 x 0 = x := fin_all (p := fun x => bits .andNot .u8 x 0 = x) (n := 256) (by decide +kernel) h0 h1
theorem less192 {x : Int} (h0 : 0 ≤ x) (h1 : x < 256) : bits .andNot .u8 x 192 = x % 64 := fin_all (p := fun x => bits .andNot .u8 x 192 = x % 64) (n := 256) (by decide +kernel) h0 h1
theorem less224 {x : Int} (h0 : 0 ≤ x) (h1 : x < 256) : bits .andNot .u8 x 224 = x % 32 := fin_all (p := fun x => bits .andNot .u8 x 224 = x % 32) (n := 256) (by decide +kernel) h0 h1
theorem less240 {x : Int} (h0 : 0 ≤ x) (h1 : x < 256) : bits .andNot .u8 x 240 = x % 16 := fin_all (p := fun x => bits .andNot .u8 x 240 = x % 16) (n := 256) (by decide +kernel) h0 h1

theorem ofInt_i32 (a : Nat) (ha : a < 2147483648) : (BitVec.ofInt 32 (a : Int)).toNat = a := by
  rw [BitVec.ofInt_natCast, BitVec.toNat_ofNat]; exact Nat.mod_eq_of_lt (by omega)
theorem wrap_i32 {n : Int} (h0 : 0 ≤ n) (h1 : n < 2147483648) : IntKind.i32.wrap n = n := by
  simp [IntKind.wrap, IntKind.bits, IntKind.signed]; omega
/-- Six bits more behind a number's. -/
theorem six_more {a c : Int} (h0 : 0 ≤ a) (h1 : a < 33554432) (h2 : 0 ≤ c) (h3 : c < 64) : bits .or .i32 (a * 64) c = a * 64 + c := by
  obtain ⟨A, rfl⟩ := Int.eq_ofNat_of_zero_le h0
  obtain ⟨C, rfl⟩ := Int.eq_ofNat_of_zero_le h2
  have e : (A * 64 ||| C) = A * 64 + C := by
    have := Nat.shiftLeft_add_eq_or_of_lt (i := 6) (b := C) (by omega) A
    rw [Nat.shiftLeft_eq, show (2 : Nat) ^ 6 = 64 from rfl] at this
    exact this.symm
  have e1 : ((A : Int) * 64) = ((A * 64 : Nat) : Int) := by omega
  rw [e1]
  show IntKind.i32.wrap ((BitVec.ofInt 32 ((A * 64 : Nat) : Int) ||| BitVec.ofInt 32 (C : Int)).toNat : Int) = _
  rw [BitVec.toNat_or, ofInt_i32 _ (by omega), ofInt_i32 _ (by omega), e, wrap_i32 (by omega) (by omega)]
  omega

end Go.Proofs.Ytambempcicakgaa.U
