/-
  The contracts of Sqrt: the bits of a root, one by one; the document's own halving.
-/
import Derived.Test.YtgbpldfcahajeaaDoorFixWhole
namespace Go.Proofs.YtgbpldfcahajeaaDoor
open Go.RowKit
open Fx
theorem sq_mono (a b : Int) (ha : 0 ≤ a) (h : a ≤ b) : a * a ≤ b * b := Int.mul_le_mul h h ha (by omega)
theorem sq_lt (a b : Int) (hb : 0 ≤ b) (h : a * a < b * b) : a < b := by
  by_cases hc : a < b
  · exact hc
  · have := sq_mono b a hb (by omega); omega
theorem root_unique (n r s : Int) (hr : 0 ≤ r) (hs : 0 ≤ s) (r1 : r * r ≤ n) (r2 : n < (r + 1) * (r + 1)) (s1 : s * s ≤ n) (s2 : n < (s + 1) * (s + 1)) : s = r := by
  have h1 := sq_lt r (s + 1) (by omega) (by omega)
  have h2 := sq_lt s (r + 1) (by omega) (by omega)
  omega
def RootRel (n : Int) (t b : Value) : Prop := ∃ j a : Nat, j ≤ 24 ∧ b = .int .i64 ((2 ^ j / 2 : Nat) : Int) ∧ t = .int .i64 ((2 ^ j * a : Nat) : Int) ∧
  ((2 ^ j * a : Nat) : Int) * ((2 ^ j * a : Nat) : Int) ≤ n ∧ n < ((2 ^ j * a + 2 ^ j : Nat) : Int) * ((2 ^ j * a + 2 ^ j : Nat) : Int)
theorem rootBelow_at (n r : Int) (w : World) (h0 : 0 ≤ n) (h1 : n < 281474976710656) (hr : 0 ≤ r) (r1 : r * r ≤ n) (r2 : n < (r + 1) * (r + 1)) :
    Calls Tryd.prog 95 #[.int .i64 n] w fun e w' => e = .returned (.int .i64 r) ∧ w = w' := by
  go_enter Tryd.func95, Tryd.ntmps95
  go_wp2
  go_loop [3, 4] (RootRel n) (fun _ b => (intOf b).toNat)
  case atStart => exact ⟨24, 0, by omega, rfl, rfl, by simpa using h0, by simpa using h1⟩
  case round =>
    obtain ⟨j, a, hj, rfl, rfl, hlo, hhi⟩ := hrel
    cases j with
    | zero =>
      simp only [Nat.pow_zero, Nat.one_mul] at *
      have hz : ((1 / 2 : Nat) : Int) = 0 := by decide
      rw [hz]
      have e : (a : Int) = r := root_unique n r a hr (by omega) r1 r2 hlo (by simpa using hhi)
      have E := Lib.hid e
      clear e hlo hhi
      go_wp2
      go_ret
      exact ⟨ret_int E.out, rfl⟩
    | succ k =>
      have hB : 2 ^ (k + 1) / 2 = 2 ^ k := by rw [Nat.pow_succ]; omega
      rw [hB]
      have hk : 2 ^ k ≤ 2 ^ 23 := Nat.pow_le_pow_right (by omega) (by omega)
      have hk0 : 1 ≤ 2 ^ k := Nat.one_le_two_pow
      have hR : ((2 ^ (k + 1) * a : Nat) : Int) < 16777216 := sq_lt _ _ (by omega) (by omega)
      have hor := or_pow a k (by omega)
      have hpow : 2 ^ (k + 1) = 2 * 2 ^ k := by rw [Nat.pow_succ]; omega
      have e24 : 2 ^ 23 = 8388608 := by decide
      rw [e24] at hk
      have hcast : ((2 ^ (k + 1) * a + 2 ^ k : Nat) : Int) = ((2 ^ (k + 1) * a : Nat) : Int) + ((2 ^ k : Nat) : Int) := by omega
      have hcas2 : ((2 ^ (k + 1) * a + 2 ^ (k + 1) : Nat) : Int) = ((2 ^ (k + 1) * a : Nat) : Int) + 2 * ((2 ^ k : Nat) : Int) := by omega
      rw [hcast] at hor
      rw [hcas2] at hhi
      have hB1 : (1 : Int) ≤ ((2 ^ k : Nat) : Int) := by omega
      have hB2 : ((2 ^ k : Nat) : Int) ≤ 8388608 := by omega
      have hR0 : (0 : Int) ≤ ((2 ^ (k + 1) * a : Nat) : Int) := by omega
      -- the relation behind the round, both ways
      have fin1 : ((2 ^ (k + 1) * a : Nat) : Int) = ((2 ^ k * (2 * a) : Nat) : Int) := by rw [Nat.pow_succ, Nat.mul_assoc]
      have fin2 : ((2 ^ (k + 1) * a : Nat) : Int) + ((2 ^ k : Nat) : Int) = ((2 ^ k * (2 * a + 1) : Nat) : Int) := by rw [← hcast, Nat.pow_succ, Nat.mul_assoc, Nat.mul_add]; simp
      have fin3 : ((2 ^ k / 2 : Nat) : Int) = ((2 ^ k : Nat) : Int) / 2 := by omega
      have fin4 : ((2 ^ k * (2 * a) + 2 ^ k : Nat) : Int) = ((2 ^ (k + 1) * a : Nat) : Int) + ((2 ^ k : Nat) : Int) := by rw [← hcast, Nat.pow_succ, Nat.mul_assoc]
      have fin5 : ((2 ^ k * (2 * a + 1) + 2 ^ k : Nat) : Int) = ((2 ^ (k + 1) * a : Nat) : Int) + 2 * ((2 ^ k : Nat) : Int) := by omega
      have F1 := Lib.hid fin1; have F2 := Lib.hid fin2; have F3 := Lib.hid fin3; have F4 := Lib.hid fin4; have F5 := Lib.hid fin5
      clear fin1 fin2 fin3 fin4 fin5 hcast hcas2 hpow hB e24 hk hk0
      generalize ((2 ^ (k + 1) * a : Nat) : Int) = R at *
      generalize ((2 ^ k : Nat) : Int) = B at *
      have b1 := sq_mono (R + B) 33554432 (by omega) (by omega)
      have b2 := sq_mono 0 (R + B) (by omega) (by omega)
      by_cases hle : (R + B) * (R + B) ≤ n
      · go_wp2
        refine ⟨⟨k, 2 * a + 1, by omega, by rw [F3.out], by rw [F2.out], by rw [← F2.out]; exact hle, by rw [F5.out]; exact hhi⟩, ?_⟩
        simp [intOf]; omega
      · go_wp2
        refine ⟨⟨k, 2 * a, by omega, by rw [F3.out], by rw [F1.out], by rw [← F1.out]; exact hlo, by rw [F4.out]; omega⟩, ?_⟩
        simp [intOf]; omega
theorem root_exists (N : Nat) : ∃ r : Int, 0 ≤ r ∧ r * r ≤ (N : Int) ∧ (N : Int) < (r + 1) * (r + 1) := by
  induction N with
  | zero => exact ⟨0, by omega, by omega, by omega⟩
  | succ N ih =>
    obtain ⟨r, h0, h1, h2⟩ := ih
    by_cases h : (r + 1) * (r + 1) ≤ ((N + 1 : Nat) : Int)
    · refine ⟨r + 1, by omega, h, ?_⟩
      have e : (r + 1 + 1) * (r + 1 + 1) = (r + 1) * (r + 1) + 2 * r + 3 := by
        rw [Int.add_mul (r + 1) 1, Int.mul_add (r + 1) (r + 1) 1]; omega
      omega
    · exact ⟨r, h0, by omega, by omega⟩
def rootOf (n r : Int) : Int := if r < n - r * r then r + 1 else r
theorem sq_succ (r : Int) : (r + 1) * (r + 1) = r * r + 2 * r + 1 := by
  rw [Int.add_mul r 1, Int.mul_add r r 1]; omega
theorem rootOf_bd (n r : Int) (hr : 0 ≤ r) (r1 : r * r ≤ n) (r2 : n < (r + 1) * (r + 1)) :
    r ≤ rootOf n r ∧ rootOf n r ≤ r + 1 ∧ (rootOf n r = 0 ∨ (2 * rootOf n r - 1) * (2 * rootOf n r - 1) ≤ 4 * n) ∧ 4 * n < (2 * rootOf n r + 1) * (2 * rootOf n r + 1) := by
  have e0 := sq_succ r
  have e1 : (2 * r - 1) * (2 * r - 1) = 4 * (r * r) - 4 * r + 1 := by
    rw [Int.sub_mul, Int.mul_sub, Int.mul_assoc 2 r (2 * r), Int.mul_left_comm r 2 r]; omega
  have e2 : (2 * r + 1) * (2 * r + 1) = 4 * (r * r) + 4 * r + 1 := by
    rw [Int.add_mul, Int.mul_add, Int.mul_assoc 2 r (2 * r), Int.mul_left_comm r 2 r]; omega
  have e3 : (2 * (r + 1) + 1) * (2 * (r + 1) + 1) = 4 * (r * r) + 12 * r + 9 := by
    have : 2 * (r + 1) + 1 = 2 * r + 3 := by omega
    rw [this, Int.add_mul, Int.mul_add, Int.mul_assoc 2 r (2 * r), Int.mul_left_comm r 2 r]; omega
  have e4 : (2 * (r + 1) - 1) * (2 * (r + 1) - 1) = 4 * (r * r) + 4 * r + 1 := by
    have : 2 * (r + 1) - 1 = 2 * r + 1 := by omega
    rw [this, e2]
  unfold rootOf
  split
  · rw [e3, e4]; refine ⟨by omega, by omega, by omega, by omega⟩
  · rw [e1, e2]; refine ⟨by omega, by omega, by omega, by omega⟩
theorem fixSqrt_no (a : Int) (w : World) (h : fits a = false ∨ a < 0) :
    Calls Tryd.prog 48 #[.int .i64 a] w fun e w' => e = .returned (.tuple #[.int .i64 0, .int .i64 11]) ∧ w = w' := by
  cases hf : fits a
  · have hh := fun w => fixFits_no a w hf
    clear hf h
    go_enter Tryd.func48, Tryd.ntmps48
    go_wp2_with fail
    refine (hh _).mono ?_; rintro e w' ⟨rfl, rfl⟩
    go_wp2_with fail
    go_ret2
    exact ⟨rfl, rfl⟩
  · have h2 : a < 0 := by rcases h with h | h; rw [hf] at h; cases h; exact h
    have hh := fun w => fixFits_yes a w hf
    clear hf h
    go_enter Tryd.func48, Tryd.ntmps48
    go_wp2_with fail
    refine (hh _).mono ?_; rintro e w' ⟨rfl, rfl⟩
    go_wp2_with fail
    go_ret2
    exact ⟨rfl, rfl⟩
theorem fixSqrt_yes (a r : Int) (w : World) (h : fits a = true) (h0 : 0 ≤ a) (hr : 0 ≤ r) (r1 : r * r ≤ a * 65536) (r2 : a * 65536 < (r + 1) * (r + 1)) :
    Calls Tryd.prog 48 #[.int .i64 a] w fun e w' => e = .returned (.tuple #[.int .i64 (rootOf (a * 65536) r), .int .i64 0]) ∧ w = w' := by
  obtain ⟨a1, a2⟩ := (fits_iff a).1 h
  have hh := Lib.hid (fun w => fixFits_yes a w h)
  have hb := Lib.hid (fun w => rootBelow_at (a * 65536) r w (by omega) (by omega) hr r1 r2)
  have r3 : r < 16777216 := sq_lt _ _ (by omega) (by omega)
  have r4 := sq_mono 0 r (by omega) (by omega)
  clear h r2
  unfold rootOf
  by_cases hc : r < a * 65536 - r * r
  · rw [if_pos hc]
    go_enter Tryd.func48, Tryd.ntmps48
    go_wp2_with fail
    refine (hh.out _).mono ?_; rintro e w' ⟨rfl, rfl⟩
    go_wp2_with fail
    refine (hb.out _).mono ?_; rintro e w' ⟨rfl, rfl⟩
    go_wp2_with fail
    go_ret2
    exact ⟨rfl, rfl⟩
  · rw [if_neg hc]
    go_enter Tryd.func48, Tryd.ntmps48
    go_wp2_with fail
    refine (hh.out _).mono ?_; rintro e w' ⟨rfl, rfl⟩
    go_wp2_with fail
    refine (hb.out _).mono ?_; rintro e w' ⟨rfl, rfl⟩
    go_wp2_with fail
    go_ret2
    exact ⟨rfl, rfl⟩
def HalfRel (n : Int) (l h : Value) : Prop := ∃ lo hi : Int, l = .int .i64 lo ∧ h = .int .i64 hi ∧ 0 ≤ lo ∧ lo ≤ hi ∧ hi ≤ 12000000 ∧ lo * lo ≤ n ∧ n < (hi + 1) * (hi + 1)
theorem refSqrt_no (a : Int) (w : World) (h : fits a = false ∨ a < 0) :
    Calls Tryd.prog 74 #[.int .i64 a] w fun e w' => e = .returned (.tuple #[.int .i64 0, .int .i64 11]) ∧ w = w' := by
  cases hf : fits a
  · have hh := fun w => refFits_no a w hf
    clear hf h
    go_enter Tryd.func74, Tryd.ntmps74
    go_wp2_with fail
    refine (hh _).mono ?_; rintro e w' ⟨rfl, rfl⟩
    go_wp2_with fail
    go_ret2
    exact ⟨rfl, rfl⟩
  · have h2 : a < 0 := by rcases h with h | h; rw [hf] at h; cases h; exact h
    have hh := fun w => refFits_yes a w hf
    clear hf h
    go_enter Tryd.func74, Tryd.ntmps74
    go_wp2_with fail
    refine (hh _).mono ?_; rintro e w' ⟨rfl, rfl⟩
    go_wp2_with fail
    go_ret2
    exact ⟨rfl, rfl⟩
theorem refSqrt_yes (a r : Int) (w : World) (h : fits a = true) (h0 : 0 ≤ a) (hr : 0 ≤ r) (r1 : r * r ≤ a * 65536) (r2 : a * 65536 < (r + 1) * (r + 1)) :
    Calls Tryd.prog 74 #[.int .i64 a] w fun e w' => e = .returned (.tuple #[.int .i64 (rootOf (a * 65536) r), .int .i64 0]) ∧ w = w' := by
  obtain ⟨a1, a2⟩ := (fits_iff a).1 h
  have hh := Lib.hid (fun w => refFits_yes a w h)
  clear h
  go_enter Tryd.func74, Tryd.ntmps74
  go_wp2_with fail
  refine (hh.out _).mono ?_; rintro e w' ⟨rfl, rfl⟩
  go_wp2_with fail
  go_loop [5, 6] (HalfRel (a * 65536)) (fun l h => (intOf h - intOf l).toNat)
  case atStart => exact ⟨0, 12000000, rfl, rfl, by omega, by omega, by omega, by omega, by omega⟩
  case round =>
    obtain ⟨lo, hi, rfl, rfl, p1, p2, p3, p4, p5⟩ := hrel
    by_cases hlt : lo < hi
    · obtain ⟨m, hm⟩ : ∃ m : Int, m = (lo + hi + 1) / 2 := ⟨_, rfl⟩
      have m1 : lo < m := by omega
      have m2 : m ≤ hi := by omega
      have b1 := sq_mono 0 ((lo + hi + 1) / 2) (by omega) (by omega)
      have b2 := sq_mono ((lo + hi + 1) / 2) 12000000 (by omega) (by omega)
      by_cases hle : (lo + hi + 1) / 2 * ((lo + hi + 1) / 2) ≤ a * 65536
      · have HM := Lib.hid hm; clear hm
        go_wp2_with fail
        refine ⟨⟨_, hi, rfl, rfl, by omega, by omega, p3, hle, p5⟩, ?_⟩
        simp [intOf]; omega
      · have HM := Lib.hid hm; clear hm
        go_wp2_with fail
        refine ⟨⟨lo, _, rfl, rfl, by omega, by omega, by omega, p4, ?_⟩, ?_⟩
        · rw [Int.sub_add_cancel]; omega
        · simp [intOf]; omega
    · obtain rfl : hi = lo := by omega
      obtain rfl : hi = r := root_unique _ r hi hr p1 r1 r2 p4 p5
      have e0 := sq_succ hi
      have r4 := sq_mono 0 hi (by omega) (by omega)
      have r5 := sq_mono hi 12000000 (by omega) (by omega)
      have r6 : (hi + 1) * (hi + 1) ≤ 144000024000001 := by omega
      have r7 : 0 ≤ (hi + 1) * (hi + 1) := by omega
      by_cases hc : hi < a * 65536 - hi * hi
      · have H := Lib.hid (show rootOf (a * 65536) hi = hi + 1 from if_pos hc)
        have hc2 : (hi + 1) * (hi + 1) - a * 65536 < a * 65536 - hi * hi := by omega
        clear e0
        go_wp2_with fail
        go_ret2
        exact ⟨by rw [H.out]; rfl, rfl⟩
      · have H := Lib.hid (show rootOf (a * 65536) hi = hi from if_neg hc)
        have hc2 : ¬ (hi + 1) * (hi + 1) - a * 65536 < a * 65536 - hi * hi := by omega
        clear e0
        go_wp2_with fail
        go_ret2
        exact ⟨by rw [H.out]; rfl, rfl⟩
end Go.Proofs.YtgbpldfcahajeaaDoor
