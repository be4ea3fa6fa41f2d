/-
  And, or, xor of 32 bits as numbers; shifts of 32 bits.
-/
import Derived.Test.YtgbpldfcahajeaaDoorAriMath
import Derived.Test.YtgbpldfcahajeaaDoorAriFn
namespace Go.Proofs.YtgbpldfcahajeaaDoor
open Go.RowKit
open Fx
namespace Ari
theorem wrap_toNat (x : BitVec 64) : IntKind.i64.wrap (x.toNat : Int) = x.toInt := by
  have h := x.isLt
  rw [IntKind.wrap_i64, BitVec.toInt_eq_toNat_cond]
  have e : (2 : Nat) ^ 64 = 18446744073709551616 := by decide
  rw [e] at *
  split <;> omega
theorem ofInt_ext {a : Int} (h : fits a = true) : BitVec.ofInt 64 a = (BitVec.ofInt 32 a).signExtend 64 := by
  obtain ⟨h1, h2⟩ := (fits_iff a).1 h
  have e : (BitVec.ofInt 32 a).toInt = a := by
    rw [BitVec.toInt_ofInt]
    have e2 : (2 : Nat) ^ 32 = 4294967296 := by decide
    rw [e2, Int.bmod_def]
    split <;> omega
  unfold BitVec.signExtend
  rw [e]
def b32 (a : Int) : BitVec 32 := BitVec.ofInt 32 a
theorem toInt_b32 {a : Int} (h : fits a = true) : (b32 a).toInt = a := by
  obtain ⟨h1, h2⟩ := (fits_iff a).1 h
  unfold b32
  rw [BitVec.toInt_ofInt]
  have e2 : (2 : Nat) ^ 32 = 4294967296 := by decide
  rw [e2, Int.bmod_def]
  split <;> omega
theorem fits_toInt (x : BitVec 32) : fits x.toInt = true := by
  rw [fits_iff]
  have h := x.isLt
  rw [BitVec.toInt_eq_toNat_cond]
  have e : (2 : Nat) ^ 32 = 4294967296 := by decide
  rw [e] at *
  split <;> omega
theorem and_bits {a b : Int} (ha : fits a = true) (hb : fits b = true) : bits .and .i64 a b = (b32 a &&& b32 b).toInt := by
  show IntKind.i64.wrap ((BitVec.ofInt 64 a &&& BitVec.ofInt 64 b).toNat : Int) = _
  rw [wrap_toNat, ofInt_ext ha, ofInt_ext hb, ← BitVec.signExtend_and, BitVec.toInt_signExtend_of_le (by omega)]
  rfl
theorem or_bits {a b : Int} (ha : fits a = true) (hb : fits b = true) : bits .or .i64 a b = (b32 a ||| b32 b).toInt := by
  show IntKind.i64.wrap ((BitVec.ofInt 64 a ||| BitVec.ofInt 64 b).toNat : Int) = _
  rw [wrap_toNat, ofInt_ext ha, ofInt_ext hb, ← BitVec.signExtend_or, BitVec.toInt_signExtend_of_le (by omega)]
  rfl
theorem xor_bits {a b : Int} (ha : fits a = true) (hb : fits b = true) : bits .xor .i64 a b = (b32 a ^^^ b32 b).toInt := by
  show IntKind.i64.wrap ((BitVec.ofInt 64 a ^^^ BitVec.ofInt 64 b).toNat : Int) = _
  rw [wrap_toNat, ofInt_ext ha, ofInt_ext hb, ← BitVec.signExtend_xor, BitVec.toInt_signExtend_of_le (by omega)]
  rfl
/-- a number by the sum of its 31 lower bits and its highest bit -/
def sI (s : Nat) (b : Bool) : Int := (s : Int) - (if b = true then 2147483648 else 0)
theorem sI_val (n s : Nat) (b : Bool) (hn : n = s + (if b = true then 2147483648 else 0)) (hl : s < 2147483648) : (if 2 * n < 4294967296 then (n : Int) else (n : Int) - ((4294967296 : Nat) : Int)) = sI s b := by
  unfold sI
  cases b
  · simp only [Bool.false_eq_true, if_false] at hn ⊢
    rw [if_pos (by omega)]; omega
  · simp only [if_true] at hn ⊢
    rw [if_neg (by omega)]; omega
theorem bsum_step (f : Nat → Bool) (k : Nat) : bsum f (k + 1) = bsum f k + (if f k = true then 2 ^ k else 0) := rfl
theorem toInt_bits (x : BitVec 32) (k : Nat) (hk : k = 31) : x.toInt = sI (bsum (fun i => x.toNat.testBit i) k) (x.toNat.testBit k) := by
  have h := x.isLt
  have e1 := bsum_test x.toNat (k + 1)
  have e2 := bsum_step (fun i => x.toNat.testBit i) k
  have e3 := bsum_lt (fun i => x.toNat.testBit i) k
  rw [e1, Nat.mod_eq_of_lt (by rw [hk]; exact h)] at e2
  rw [BitVec.toInt_eq_toNat_cond]
  have c1 : (2 : Nat) ^ 32 = 4294967296 := by decide
  have c2 : (2 : Nat) ^ k = 2147483648 := by rw [hk]
  rw [c2] at e2 e3
  rw [c1]
  exact sI_val _ _ _ e2 e3
theorem bsum_add {f g h : Nat → Bool} : ∀ {k : Nat}, (∀ i, i < k → (f i = true ↔ (g i = true ∨ h i = true)) ∧ ¬ (g i = true ∧ h i = true)) → bsum f k = bsum g k + bsum h k
  | 0, _ => rfl
  | k + 1, H => by
    obtain ⟨h1, h2⟩ := H k (by omega)
    rw [bsum, bsum, bsum, bsum_add (fun i hi => H i (by omega))]
    cases hf : f k <;> cases hg : g k <;> cases hh : h k <;> simp_all <;> omega
theorem sI_sub (s t : Nat) (p q r : Bool) (h1 : p = true ↔ (q = true ∨ r = true)) (h2 : ¬ (q = true ∧ r = true)) : sI (s + t) p - sI s q = sI t r := by
  unfold sI
  cases p <;> cases q <;> cases r
  all_goals first
    | (exfalso; simp at h1; done)
    | (exfalso; simp at h2; done)
    | (simp; omega)
theorem or_sub_and (x y : BitVec 32) : (x ||| y).toInt - (x &&& y).toInt = (x ^^^ y).toInt := by
  have H : ∀ i, ((x ||| y).toNat.testBit i = true ↔ ((x &&& y).toNat.testBit i = true ∨ (x ^^^ y).toNat.testBit i = true)) ∧ ¬ ((x &&& y).toNat.testBit i = true ∧ (x ^^^ y).toNat.testBit i = true) := fun i => by
    rw [BitVec.toNat_or, BitVec.toNat_and, BitVec.toNat_xor, Nat.testBit_or, Nat.testBit_and, Nat.testBit_xor]
    cases x.toNat.testBit i <;> cases y.toNat.testBit i <;> simp
  obtain ⟨k, hk⟩ : ∃ k : Nat, k = 31 := ⟨_, rfl⟩
  rw [toInt_bits (x ||| y) k hk, toInt_bits (x &&& y) k hk, toInt_bits (x ^^^ y) k hk, bsum_add (k := k) (fun i _ => H i)]
  exact sI_sub _ _ _ _ _ (H k).1 (H k).2
theorem xor_ones {a : Int} (ha : fits a = true) : bits .xor .i64 a (-1) = -1 - a := by
  rw [xor_bits ha (by decide)]
  have e : b32 (-1) = BitVec.allOnes 32 := by decide
  rw [e, BitVec.xor_allOnes, BitVec.toInt_not]
  obtain ⟨h1, h2⟩ := (fits_iff a).1 ha
  have h := (b32 a).isLt
  have e3 := BitVec.toInt_eq_toNat_cond (b32 a)
  rw [toInt_b32 ha] at e3
  simp only [Nat.reducePow, Int.reducePow] at *
  rw [Int.bmod_def]
  split at e3 <;> split <;> omega
theorem wrap32_fits (n : Int) : fits (wrap32 n) = true := by rw [fits_iff]; unfold wrap32; omega
theorem shi_up {a k : Int} (hk : 0 ≤ k ∧ k ≤ 31) : shiV a k = wrap32 (a % 4294967296 * 2 ^ k.toNat % 4294967296) := by
  unfold shiV
  rw [if_neg (by omega), show min k.toNat 32 = k.toNat by omega]
theorem shi_down {t k : Int} (ht : 0 ≤ t ∧ t < 4294967296) (hk : 0 ≤ k ∧ k ≤ 31) : shiV (wrap32 t) (-k) = wrap32 (t / 2 ^ k.toNat) := by
  have e : wrap32 t % 4294967296 = t := by unfold wrap32; omega
  unfold shiV
  by_cases h : k = 0
  · subst h
    rw [if_neg (by omega), e]
    simp
    rw [Int.emod_eq_of_lt ht.1 ht.2]
  · rw [if_pos (by omega), e, show min (- -k).toNat 32 = k.toNat by omega]
end Ari
end Go.Proofs.YtgbpldfcahajeaaDoor
