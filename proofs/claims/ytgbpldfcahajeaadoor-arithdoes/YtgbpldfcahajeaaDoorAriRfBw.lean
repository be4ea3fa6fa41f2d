/-
  The document's own Arith: bit by bit, whole numbers (made by genref.py).
-/
import Derived.Test.YtgbpldfcahajeaaDoorAriRf
import Derived.Test.YtgbpldfcahajeaaDoorAriBitM
import Derived.Deep.RegionWith
namespace Go.Proofs.YtgbpldfcahajeaaDoor
open Go.RowKit
open Fx
namespace Ari
def tI (n : Nat) : Int := if 2 * n < 4294967296 then (n : Int) else (n : Int) - ((4294967296 : Nat) : Int)
theorem toInt_tI (x : BitVec 32) : x.toInt = tI x.toNat := by
  unfold tI
  rw [BitVec.toInt_eq_toNat_cond]
theorem bsum_test_lt (X : BitVec 32) : bsum (fun i => X.toNat.testBit i) 32 = X.toNat := by rw [bsum_test, Nat.mod_eq_of_lt X.isLt]
set_option maxRecDepth 100000 in
theorem refLogic_and (x y : Bool) (w : World) : Calls Tryd.prog 24 #[.string ⟨#[97, 110, 100]⟩, .bool x, .bool y] w fun e w' => e = .returned (.bool (x && y)) ∧ w = w' := by
  cases x <;> cases y
  all_goals
    go_enter Tryd.func24, Tryd.ntmps24
    go_wp2_with fail
    go_ret
    exact ⟨by simp, rfl⟩
theorem bsum_and (X Y : BitVec 32) : bsum (fun i => X.toNat.testBit i && Y.toNat.testBit i) 32 = (X &&& Y).toNat := by
  rw [← bsum_test_lt (X &&& Y)]
  refine bsum_ext (fun i _ => ?_)
  rw [BitVec.toNat_and, Nat.testBit_and]
set_option maxHeartbeats 1000000 in
set_option maxRecDepth 100000 in
theorem refBitw_and (a b : Int) (ha : fits a = true) (hb : fits b = true) (w : World) : Calls Tryd.prog 25 #[.string ⟨#[97, 110, 100]⟩, .int .i64 a, .int .i64 b] w fun e w' => e = .returned (.int .i64 (bits .and .i64 a b)) ∧ w = w' := by
  have hR := and_bits ha hb
  rw [hR, toInt_tI]
  obtain ⟨f, hf⟩ : ∃ f : Nat → Bool, f = fun i => (bit a i && bit b i) := ⟨_, rfl⟩
  obtain ⟨K, hK⟩ : ∃ K : Nat, K = 32 := ⟨32, rfl⟩
  have hN : bsum f K = (b32 a &&& b32 b).toNat := by
    rw [hK, ← bsum_and]
    refine bsum_ext (fun i hi => ?_)
    rw [hf]
    show (bit a i && bit b i) = _
    rw [bit_eq a i hi, bit_eq b i hi]; rfl
  have hlt := (b32 a &&& b32 b).isLt
  have e32 : (2 : Nat) ^ 32 = 4294967296 := by decide
  rw [e32] at hlt
  rw [← hN] at hlt ⊢
  have HN := Lib.hid hlt
  have HFn := Lib.hid hf
  clear hR hN hlt ha hb hf
  go_enter Tryd.func25, Tryd.ntmps25
  go_wp2_with fail
  go_loop [7, 8] (fun n i => ∃ k : Nat, k ≤ 32 ∧ n = .int .i64 ((bsum f k : Nat) : Int) ∧ i = .int .i64 (k : Int)) (fun _ i => 32 - (intOf i).toNat)
  case atStart => exact ⟨0, by omega, rfl, rfl⟩
  case round =>
    obtain ⟨k, hk, rfl, rfl⟩ := hrel
    by_cases h : k < 32
    · have hs := bsum_step f k
      have hl := bsum_lt f k
      have hp : 2 ^ k ≤ 2147483648 := Nat.le_trans (Nat.pow_le_pow_right (by omega) (show k ≤ 31 by omega)) (by decide)
      have hpc : ((2 : Int) ^ k) = ((2 ^ k : Nat) : Int) := by rw [Int.natCast_pow]; rfl
      have HA : ((a / 2 ^ k).tmod 2 != 0) = bit a k := by unfold bit; rw [Int.shiftRight_eq_div_pow, Int.natCast_pow]; by_cases hz : (a / (2 : Int) ^ k).tmod 2 = 0 <;> simp [hz]
      have HB : ((b / 2 ^ k).tmod 2 != 0) = bit b k := by unfold bit; rw [Int.shiftRight_eq_div_pow, Int.natCast_pow]; by_cases hz : (b / (2 : Int) ^ k).tmod 2 = 0 <;> simp [hz]
      have hfk : f k = (bit a k && bit b k) := by rw [HFn.out]
      have HL := Lib.hid (fun W => refLogic_and (bit a k) (bit b k) W)
      rw [hpc] at HA HB
      rw [← hfk] at HL
      generalize 2 ^ k = P at *
      generalize bsum f k = S at *
      generalize hg : bsum f (k + 1) = S1 at *
      have HS := Lib.hid hs
      have HG := Lib.hid hg
      cases hv : f k
      · rw [hv] at HL
        have hs0 : S1 = S := by have := HS.out; rw [hv] at this; simpa using this
        clear hs hg hv hfk
        go_wp2_with fail
        refine (HL.out _).mono ?_; rintro e w' ⟨rfl, rfl⟩
        go_wp2_with fail
        refine ⟨⟨k + 1, by omega, by rw [HG.out, hs0], by simp⟩, ?_⟩
        simp [intOf]; omega
      · rw [hv] at HL
        have hs0 : S1 = S + P := by have := HS.out; rw [hv] at this; simpa using this
        clear hs hg hv hfk
        go_wp2_with fail
        refine (HL.out _).mono ?_; rintro e w' ⟨rfl, rfl⟩
        go_wp2_with fail
        refine ⟨⟨k + 1, by omega, by rw [HG.out, hs0]; simp, by simp⟩, ?_⟩
        simp [intOf]; omega
    · have hk2 : k = K := by omega
      subst hk2
      have hn := HN.out
      obtain ⟨N, hgN⟩ : ∃ N, bsum f k = N := ⟨_, rfl⟩
      rw [hgN] at hn ⊢
      have HGN := Lib.hid hgN
      clear hgN hK hk
      obtain ⟨M, hM⟩ : ∃ M : Int, (N : Int) = M := ⟨_, rfl⟩
      rw [hM]
      have m0 : 0 ≤ M := by omega
      have m1 : M < 4294967296 := by omega
      by_cases hge : M < 2147483648
      · have hi : tI N = M := by unfold tI; rw [if_pos (by omega)]; exact hM
        have HI := Lib.hid hi
        clear hi hM hn
        go_wp2_with fail
        go_ret
        refine ⟨ret_int ?_, rfl⟩
        first | exact HI.out.symm | (rw [HGN.out]; exact HI.out.symm) | (rw [HGN.out]; omega)
      · have hi : tI N = M - 4294967296 := by unfold tI; rw [if_neg (by omega), hM]; rfl
        have HI := Lib.hid hi
        clear hi hM hn
        go_wp2_with fail
        go_ret
        refine ⟨ret_int ?_, rfl⟩
        first | exact HI.out.symm | (rw [HGN.out]; exact HI.out.symm) | (rw [HGN.out]; omega)
set_option maxRecDepth 100000 in
theorem refLogic_or (x y : Bool) (w : World) : Calls Tryd.prog 24 #[.string ⟨#[111, 114]⟩, .bool x, .bool y] w fun e w' => e = .returned (.bool (x || y)) ∧ w = w' := by
  cases x <;> cases y
  all_goals
    go_enter Tryd.func24, Tryd.ntmps24
    go_wp2_with fail
    go_ret
    exact ⟨by simp, rfl⟩
theorem bsum_or (X Y : BitVec 32) : bsum (fun i => X.toNat.testBit i || Y.toNat.testBit i) 32 = (X ||| Y).toNat := by
  rw [← bsum_test_lt (X ||| Y)]
  refine bsum_ext (fun i _ => ?_)
  rw [BitVec.toNat_or, Nat.testBit_or]
set_option maxHeartbeats 1000000 in
set_option maxRecDepth 100000 in
theorem refBitw_or (a b : Int) (ha : fits a = true) (hb : fits b = true) (w : World) : Calls Tryd.prog 25 #[.string ⟨#[111, 114]⟩, .int .i64 a, .int .i64 b] w fun e w' => e = .returned (.int .i64 (bits .or .i64 a b)) ∧ w = w' := by
  have hR := or_bits ha hb
  rw [hR, toInt_tI]
  obtain ⟨f, hf⟩ : ∃ f : Nat → Bool, f = fun i => (bit a i || bit b i) := ⟨_, rfl⟩
  obtain ⟨K, hK⟩ : ∃ K : Nat, K = 32 := ⟨32, rfl⟩
  have hN : bsum f K = (b32 a ||| b32 b).toNat := by
    rw [hK, ← bsum_or]
    refine bsum_ext (fun i hi => ?_)
    rw [hf]
    show (bit a i || bit b i) = _
    rw [bit_eq a i hi, bit_eq b i hi]; rfl
  have hlt := (b32 a ||| b32 b).isLt
  have e32 : (2 : Nat) ^ 32 = 4294967296 := by decide
  rw [e32] at hlt
  rw [← hN] at hlt ⊢
  have HN := Lib.hid hlt
  have HFn := Lib.hid hf
  clear hR hN hlt ha hb hf
  go_enter Tryd.func25, Tryd.ntmps25
  go_wp2_with fail
  go_loop [7, 8] (fun n i => ∃ k : Nat, k ≤ 32 ∧ n = .int .i64 ((bsum f k : Nat) : Int) ∧ i = .int .i64 (k : Int)) (fun _ i => 32 - (intOf i).toNat)
  case atStart => exact ⟨0, by omega, rfl, rfl⟩
  case round =>
    obtain ⟨k, hk, rfl, rfl⟩ := hrel
    by_cases h : k < 32
    · have hs := bsum_step f k
      have hl := bsum_lt f k
      have hp : 2 ^ k ≤ 2147483648 := Nat.le_trans (Nat.pow_le_pow_right (by omega) (show k ≤ 31 by omega)) (by decide)
      have hpc : ((2 : Int) ^ k) = ((2 ^ k : Nat) : Int) := by rw [Int.natCast_pow]; rfl
      have HA : ((a / 2 ^ k).tmod 2 != 0) = bit a k := by unfold bit; rw [Int.shiftRight_eq_div_pow, Int.natCast_pow]; by_cases hz : (a / (2 : Int) ^ k).tmod 2 = 0 <;> simp [hz]
      have HB : ((b / 2 ^ k).tmod 2 != 0) = bit b k := by unfold bit; rw [Int.shiftRight_eq_div_pow, Int.natCast_pow]; by_cases hz : (b / (2 : Int) ^ k).tmod 2 = 0 <;> simp [hz]
      have hfk : f k = (bit a k || bit b k) := by rw [HFn.out]
      have HL := Lib.hid (fun W => refLogic_or (bit a k) (bit b k) W)
      rw [hpc] at HA HB
      rw [← hfk] at HL
      generalize 2 ^ k = P at *
      generalize bsum f k = S at *
      generalize hg : bsum f (k + 1) = S1 at *
      have HS := Lib.hid hs
      have HG := Lib.hid hg
      cases hv : f k
      · rw [hv] at HL
        have hs0 : S1 = S := by have := HS.out; rw [hv] at this; simpa using this
        clear hs hg hv hfk
        go_wp2_with fail
        refine (HL.out _).mono ?_; rintro e w' ⟨rfl, rfl⟩
        go_wp2_with fail
        refine ⟨⟨k + 1, by omega, by rw [HG.out, hs0], by simp⟩, ?_⟩
        simp [intOf]; omega
      · rw [hv] at HL
        have hs0 : S1 = S + P := by have := HS.out; rw [hv] at this; simpa using this
        clear hs hg hv hfk
        go_wp2_with fail
        refine (HL.out _).mono ?_; rintro e w' ⟨rfl, rfl⟩
        go_wp2_with fail
        refine ⟨⟨k + 1, by omega, by rw [HG.out, hs0]; simp, by simp⟩, ?_⟩
        simp [intOf]; omega
    · have hk2 : k = K := by omega
      subst hk2
      have hn := HN.out
      obtain ⟨N, hgN⟩ : ∃ N, bsum f k = N := ⟨_, rfl⟩
      rw [hgN] at hn ⊢
      have HGN := Lib.hid hgN
      clear hgN hK hk
      obtain ⟨M, hM⟩ : ∃ M : Int, (N : Int) = M := ⟨_, rfl⟩
      rw [hM]
      have m0 : 0 ≤ M := by omega
      have m1 : M < 4294967296 := by omega
      by_cases hge : M < 2147483648
      · have hi : tI N = M := by unfold tI; rw [if_pos (by omega)]; exact hM
        have HI := Lib.hid hi
        clear hi hM hn
        go_wp2_with fail
        go_ret
        refine ⟨ret_int ?_, rfl⟩
        first | exact HI.out.symm | (rw [HGN.out]; exact HI.out.symm) | (rw [HGN.out]; omega)
      · have hi : tI N = M - 4294967296 := by unfold tI; rw [if_neg (by omega), hM]; rfl
        have HI := Lib.hid hi
        clear hi hM hn
        go_wp2_with fail
        go_ret
        refine ⟨ret_int ?_, rfl⟩
        first | exact HI.out.symm | (rw [HGN.out]; exact HI.out.symm) | (rw [HGN.out]; omega)
set_option maxRecDepth 100000 in
theorem refLogic_xor (x y : Bool) (w : World) : Calls Tryd.prog 24 #[.string ⟨#[120, 111, 114]⟩, .bool x, .bool y] w fun e w' => e = .returned (.bool (x != y)) ∧ w = w' := by
  cases x <;> cases y
  all_goals
    go_enter Tryd.func24, Tryd.ntmps24
    go_wp2_with fail
    go_ret
    exact ⟨by simp, rfl⟩
theorem bsum_xor (X Y : BitVec 32) : bsum (fun i => X.toNat.testBit i != Y.toNat.testBit i) 32 = (X ^^^ Y).toNat := by
  rw [← bsum_test_lt (X ^^^ Y)]
  refine bsum_ext (fun i _ => ?_)
  rw [BitVec.toNat_xor, Nat.testBit_xor]
set_option maxHeartbeats 1000000 in
set_option maxRecDepth 100000 in
theorem refBitw_xor (a b : Int) (ha : fits a = true) (hb : fits b = true) (w : World) : Calls Tryd.prog 25 #[.string ⟨#[120, 111, 114]⟩, .int .i64 a, .int .i64 b] w fun e w' => e = .returned (.int .i64 (bits .xor .i64 a b)) ∧ w = w' := by
  have hR := xor_bits ha hb
  rw [hR, toInt_tI]
  obtain ⟨f, hf⟩ : ∃ f : Nat → Bool, f = fun i => (bit a i != bit b i) := ⟨_, rfl⟩
  obtain ⟨K, hK⟩ : ∃ K : Nat, K = 32 := ⟨32, rfl⟩
  have hN : bsum f K = (b32 a ^^^ b32 b).toNat := by
    rw [hK, ← bsum_xor]
    refine bsum_ext (fun i hi => ?_)
    rw [hf]
    show (bit a i != bit b i) = _
    rw [bit_eq a i hi, bit_eq b i hi]; rfl
  have hlt := (b32 a ^^^ b32 b).isLt
  have e32 : (2 : Nat) ^ 32 = 4294967296 := by decide
  rw [e32] at hlt
  rw [← hN] at hlt ⊢
  have HN := Lib.hid hlt
  have HFn := Lib.hid hf
  clear hR hN hlt ha hb hf
  go_enter Tryd.func25, Tryd.ntmps25
  go_wp2_with fail
  go_loop [7, 8] (fun n i => ∃ k : Nat, k ≤ 32 ∧ n = .int .i64 ((bsum f k : Nat) : Int) ∧ i = .int .i64 (k : Int)) (fun _ i => 32 - (intOf i).toNat)
  case atStart => exact ⟨0, by omega, rfl, rfl⟩
  case round =>
    obtain ⟨k, hk, rfl, rfl⟩ := hrel
    by_cases h : k < 32
    · have hs := bsum_step f k
      have hl := bsum_lt f k
      have hp : 2 ^ k ≤ 2147483648 := Nat.le_trans (Nat.pow_le_pow_right (by omega) (show k ≤ 31 by omega)) (by decide)
      have hpc : ((2 : Int) ^ k) = ((2 ^ k : Nat) : Int) := by rw [Int.natCast_pow]; rfl
      have HA : ((a / 2 ^ k).tmod 2 != 0) = bit a k := by unfold bit; rw [Int.shiftRight_eq_div_pow, Int.natCast_pow]; by_cases hz : (a / (2 : Int) ^ k).tmod 2 = 0 <;> simp [hz]
      have HB : ((b / 2 ^ k).tmod 2 != 0) = bit b k := by unfold bit; rw [Int.shiftRight_eq_div_pow, Int.natCast_pow]; by_cases hz : (b / (2 : Int) ^ k).tmod 2 = 0 <;> simp [hz]
      have hfk : f k = (bit a k != bit b k) := by rw [HFn.out]
      have HL := Lib.hid (fun W => refLogic_xor (bit a k) (bit b k) W)
      rw [hpc] at HA HB
      rw [← hfk] at HL
      generalize 2 ^ k = P at *
      generalize bsum f k = S at *
      generalize hg : bsum f (k + 1) = S1 at *
      have HS := Lib.hid hs
      have HG := Lib.hid hg
      cases hv : f k
      · rw [hv] at HL
        have hs0 : S1 = S := by have := HS.out; rw [hv] at this; simpa using this
        clear hs hg hv hfk
        go_wp2_with fail
        refine (HL.out _).mono ?_; rintro e w' ⟨rfl, rfl⟩
        go_wp2_with fail
        refine ⟨⟨k + 1, by omega, by rw [HG.out, hs0], by simp⟩, ?_⟩
        simp [intOf]; omega
      · rw [hv] at HL
        have hs0 : S1 = S + P := by have := HS.out; rw [hv] at this; simpa using this
        clear hs hg hv hfk
        go_wp2_with fail
        refine (HL.out _).mono ?_; rintro e w' ⟨rfl, rfl⟩
        go_wp2_with fail
        refine ⟨⟨k + 1, by omega, by rw [HG.out, hs0]; simp, by simp⟩, ?_⟩
        simp [intOf]; omega
    · have hk2 : k = K := by omega
      subst hk2
      have hn := HN.out
      obtain ⟨N, hgN⟩ : ∃ N, bsum f k = N := ⟨_, rfl⟩
      rw [hgN] at hn ⊢
      have HGN := Lib.hid hgN
      clear hgN hK hk
      obtain ⟨M, hM⟩ : ∃ M : Int, (N : Int) = M := ⟨_, rfl⟩
      rw [hM]
      have m0 : 0 ≤ M := by omega
      have m1 : M < 4294967296 := by omega
      by_cases hge : M < 2147483648
      · have hi : tI N = M := by unfold tI; rw [if_pos (by omega)]; exact hM
        have HI := Lib.hid hi
        clear hi hM hn
        go_wp2_with fail
        go_ret
        refine ⟨ret_int ?_, rfl⟩
        first | exact HI.out.symm | (rw [HGN.out]; exact HI.out.symm) | (rw [HGN.out]; omega)
      · have hi : tI N = M - 4294967296 := by unfold tI; rw [if_neg (by omega), hM]; rfl
        have HI := Lib.hid hi
        clear hi hM hn
        go_wp2_with fail
        go_ret
        refine ⟨ret_int ?_, rfl⟩
        first | exact HI.out.symm | (rw [HGN.out]; exact HI.out.symm) | (rw [HGN.out]; omega)
end Ari
end Go.Proofs.YtgbpldfcahajeaaDoor
