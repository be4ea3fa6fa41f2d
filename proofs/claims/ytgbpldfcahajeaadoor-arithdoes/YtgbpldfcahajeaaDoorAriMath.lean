/-
  The bits of a whole number, plainly (for the arithmetic of bits).
-/
import Derived.Test.YtgbpldfcahajeaaDoorRows
namespace Go.Proofs.YtgbpldfcahajeaaDoor
namespace Ari
/-- the sum of the first k bits that f tells -/
def bsum (f : Nat → Bool) : Nat → Nat
  | 0 => 0
  | k + 1 => bsum f k + (if f k = true then 2 ^ k else 0)
theorem bsum_ext {f g : Nat → Bool} : ∀ {k : Nat}, (∀ i, i < k → f i = g i) → bsum f k = bsum g k
  | 0, _ => rfl
  | k + 1, h => by
    rw [bsum, bsum, bsum_ext (fun i hi => h i (by omega)), h k (by omega)]
theorem bsum_test (n : Nat) : ∀ k : Nat, bsum (fun i => n.testBit i) k = n % 2 ^ k
  | 0 => by simp [bsum, Nat.mod_one]
  | k + 1 => by
    rw [bsum, bsum_test n k, Nat.mod_pow_succ, Nat.testBit_eq_decide_div_mod_eq]
    rcases Nat.mod_two_eq_zero_or_one (n / 2 ^ k) with h | h <;> simp [h]
theorem bsum_lt (f : Nat → Bool) : ∀ k : Nat, bsum f k < 2 ^ k
  | 0 => by simp [bsum]
  | k + 1 => by
    have := bsum_lt f k
    rw [bsum, Nat.pow_succ]
    split <;> omega
/-- the i-th bit of a whole number, as Go reckons it -/
def bit (a : Int) (i : Nat) : Bool := decide ((a >>> i).tmod 2 ≠ 0)
theorem bit_eq (a : Int) (i : Nat) (hi : i < 32) : bit a i = (BitVec.ofInt 32 a).toNat.testBit i := by
  unfold bit
  rw [Nat.testBit_eq_decide_div_mod_eq, BitVec.toNat_ofInt]
  rw [Int.shiftRight_eq_div_pow, Int.natCast_pow]
  congr 1
  show ((a / (2 : Int) ^ i).tmod 2 ≠ 0) = _
  have hp : (0 : Int) < 2 ^ i := Int.pow_pos (by decide)
  have h1 : a = (2 : Int) ^ 32 * (a / 2 ^ 32) + a % 2 ^ 32 := (Int.mul_ediv_add_emod a (2 ^ 32)).symm
  have h2 : (2 : Int) ^ 32 = 2 ^ i * (2 * 2 ^ (31 - i)) := by
    rw [← Int.pow_succ', ← Int.pow_add]
    congr 1; omega
  have h3 : a / 2 ^ i = 2 * (2 ^ (31 - i) * (a / 2 ^ 32)) + (a % 2 ^ 32) / 2 ^ i := by
    conv => lhs; rw [h1]
    rw [h2, Int.mul_assoc, Int.add_comm, Int.add_mul_ediv_left _ _ (by omega)]
    rw [← h2, Int.add_comm, Int.mul_assoc]
  have h4 : 0 ≤ a % 2 ^ 32 := Int.emod_nonneg _ (by decide)
  obtain ⟨r, hr⟩ : ∃ r : Nat, a % 2 ^ 32 = r := ⟨(a % 2 ^ 32).toNat, by omega⟩
  have h5 : (a % ((2 ^ 32 : Nat) : Int)).toNat = r := by
    have : ((2 ^ 32 : Nat) : Int) = 2 ^ 32 := by norm_cast
    rw [this, hr]; simp
  rw [h5, h3, hr]
  have h6 : ((r : Int) / 2 ^ i) = ((r / 2 ^ i : Nat) : Int) := by
    rw [Int.natCast_ediv, Int.natCast_pow]; rfl
  rw [h6]
  generalize r / 2 ^ i = t
  generalize 2 ^ (31 - i) * (a / 2 ^ 32) = q
  rw [Int.tmod_eq_emod]
  apply propext
  constructor
  · intro h
    split at h <;> omega
  · intro h
    split <;> omega
end Ari
end Go.Proofs.YtgbpldfcahajeaaDoor
