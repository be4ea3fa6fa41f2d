/-
  Bits of whole numbers, plainly: what is left of an int when its lowest 16 bits are cleared; an 'or' of numbers that share no bit.
-/
import Derived.Laws.BitsAllLaws
import Derived.Lib.QuoteBits
import Derived.Laws.BitsLemmas
namespace Go.Proofs.YtfilbfenpdaahaaGreatDoor.Fx

theorem nat_clear16 (m : Nat) (h : m < 18446744073709551616) : m &&& 18446744073709486080 = m / 65536 * 65536 := by
  have e1 : (18446744073709486080 : Nat) = (2 ^ 48 - 1) * 2 ^ 16 := by decide
  have e2 : (65536 : Nat) = 2 ^ 16 := by decide
  rw [e1, e2]
  apply Nat.eq_of_testBit_eq
  intro i
  rw [Nat.testBit_and, Nat.testBit_mul_two_pow, Nat.testBit_mul_two_pow, Nat.testBit_two_pow_sub_one, Nat.testBit_div_two_pow]
  by_cases h16 : 16 ≤ i
  · have e3 : i - 16 + 16 = i := by omega
    by_cases h64 : i < 64
    · have : i - 16 < 48 := by omega
      simp [h16, this, e3]
    · have hb : m.testBit i = false := Nat.testBit_lt_two_pow (Nat.lt_of_lt_of_le h (by
        have : 2 ^ 64 ≤ 2 ^ i := Nat.pow_le_pow_right (by omega) (by omega)
        exact this))
      simp [e3, hb]
  · simp [h16]

theorem andNot_16 (n : Int) (h1 : -9223372036854775808 ≤ n) (h2 : n ≤ 9223372036854775807) : bits .andNot .i64 n 65535 = n - n % 65536 := by
  show IntKind.i64.wrap ((BitVec.ofInt 64 n &&& ~~~BitVec.ofInt 64 ((65535 : Nat) : Int)).toNat : Int) = _
  have e : 2 ^ 64 - 1 - 65535 = 18446744073709486080 := by decide
  rw [BitVec.toNat_and, BitVec.toNat_not, ofInt_u64 65535 (by omega), e, nat_clear16 _ (BitVec.isLt _), BitVec.toNat_ofInt]
  generalize hm : (n % ((2 ^ 64 : Nat) : Int)).toNat = m
  have hm2 : (m : Int) = n % 18446744073709551616 := by
    have : ((2 ^ 64 : Nat) : Int) = 18446744073709551616 := by decide
    rw [this] at hm; omega
  rw [IntKind.wrap_i64]
  omega

theorem or_pow (a j : Nat) (h : 2 ^ (j + 1) * a + 2 ^ j < 9223372036854775808) : bits .or .i64 ((2 ^ (j + 1) * a : Nat) : Int) ((2 ^ j : Nat) : Int) = ((2 ^ (j + 1) * a + 2 ^ j : Nat) : Int) := by
  show IntKind.i64.wrap ((BitVec.ofInt 64 ((2 ^ (j + 1) * a : Nat) : Int) ||| BitVec.ofInt 64 ((2 ^ j : Nat) : Int)).toNat : Int) = _
  have h2 : 2 ^ j < 2 ^ (j + 1) := Nat.pow_lt_pow_right (by omega) (by omega)
  rw [BitVec.toNat_or, ofInt_u64 _ (by omega), ofInt_u64 _ (by omega), ← Nat.two_pow_add_eq_or_of_lt h2]
  exact Go.Lib.wrap_i64_small _ h
end Go.Proofs.YtfilbfenpdaahaaGreatDoor.Fx
