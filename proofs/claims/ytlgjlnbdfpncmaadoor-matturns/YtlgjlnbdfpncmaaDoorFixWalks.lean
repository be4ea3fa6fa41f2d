/-
  The contracts of the functions of package fix and of the document's own (ref01), one by one.
-/
import Derived.Test.YtlgjlnbdfpncmaaDoorRows
import Derived.Test.YtlgjlnbdfpncmaaDoorFixMath
import Derived.WalkKit
import Derived.WalkSpells
import Derived.BigQuiet
import Derived.Deep.QuietTactic
import Derived.Lib.Hide
import Derived.Test.YtlgjlnbdfpncmaaDoorFixBits
namespace Go.Proofs.YtlgjlnbdfpncmaaDoor
open Go.RowKit
open Fx
theorem ret_int {k : IntKind} {a b : Int} (h : a = b) : Ending.returned (.int k a) = .returned (.int k b) := by rw [h]

theorem fixFits_any (n : Int) (w : World) :
    Calls Tryd.prog 8 #[.int .i64 n] w fun e w' => e = .returned (.bool (fits n)) ∧ w = w' := by
  unfold fits
  by_cases h1 : -2147483648 ≤ n
  · go_enter Tryd.func8, Tryd.ntmps8
    go_wp2
    go_ret
    exact ⟨by simp [h1], rfl⟩
  · go_enter Tryd.func8, Tryd.ntmps8
    go_wp2
    go_ret
    exact ⟨by simp; omega, rfl⟩
theorem fixFits_yes (n : Int) (w : World) (h : fits n = true) :
    Calls Tryd.prog 8 #[.int .i64 n] w fun e w' => e = .returned (.bool true) ∧ w = w' := by
  have := fixFits_any n w; rwa [h] at this
theorem fixFits_no (n : Int) (w : World) (h : fits n = false) :
    Calls Tryd.prog 8 #[.int .i64 n] w fun e w' => e = .returned (.bool false) ∧ w = w' := by
  have := fixFits_any n w; rwa [h] at this
theorem refFits_any (n : Int) (w : World) :
    Calls Tryd.prog 7 #[.int .i64 n] w fun e w' => e = .returned (.bool (fits n)) ∧ w = w' := by
  unfold fits
  by_cases h1 : -2147483648 ≤ n
  · go_enter Tryd.func7, Tryd.ntmps7
    go_wp2
    go_ret
    exact ⟨by simp [h1], rfl⟩
  · go_enter Tryd.func7, Tryd.ntmps7
    go_wp2
    go_ret
    exact ⟨by simp; omega, rfl⟩
theorem refFits_yes (n : Int) (w : World) (h : fits n = true) :
    Calls Tryd.prog 7 #[.int .i64 n] w fun e w' => e = .returned (.bool true) ∧ w = w' := by
  have := refFits_any n w; rwa [h] at this
theorem refFits_no (n : Int) (w : World) (h : fits n = false) :
    Calls Tryd.prog 7 #[.int .i64 n] w fun e w' => e = .returned (.bool false) ∧ w = w' := by
  have := refFits_any n w; rwa [h] at this
theorem outcome_any (n : Int) (w : World) :
    Calls Tryd.prog 15 #[.int .i64 n] w fun e w' => e = .returned (.tuple #[.int .i64 (outV n), .int .i64 (outE n)]) ∧ w = w' := by
  cases h : fits n
  · rw [outV_no h, outE_no h]
    have hh := fun w => fixFits_no n w h
    clear h
    go_enter Tryd.func15, Tryd.ntmps15
    go_wp2_with (go_at_call 8; refine (hh _).mono ?_; rintro e w' ⟨rfl, rfl⟩)
    go_ret2
    exact ⟨rfl, rfl⟩
  · rw [outV_yes h, outE_yes h]
    have hh := fun w => fixFits_yes n w h
    clear h
    go_enter Tryd.func15, Tryd.ntmps15
    go_wp2_with (go_at_call 8; refine (hh _).mono ?_; rintro e w' ⟨rfl, rfl⟩)
    go_ret2
    exact ⟨rfl, rfl⟩
theorem fixAdd_any (a b : Int) (w : World) :
    Calls Tryd.prog 23 #[.int .i64 a, .int .i64 b] w fun e w' => e = .returned (.tuple #[.int .i64 (addV a b), .int .i64 (addE a b)]) ∧ w = w' := by
  unfold addV addE
  cases ha : fits a
  · have hh := fun w => fixFits_no a w ha
    simp only [Bool.false_and, Bool.false_eq_true, if_false]
    clear ha
    go_enter Tryd.func23, Tryd.ntmps23
    go_wp2_with fail
    refine (hh _).mono ?_; rintro e w' ⟨rfl, rfl⟩
    go_wp2_with fail
    go_ret2
    exact ⟨rfl, rfl⟩
  · have hh := fun w => fixFits_yes a w ha
    obtain ⟨ha1, ha2⟩ := (fits_iff a).1 ha
    clear ha
    cases hb : fits b
    · have hi := fun w => fixFits_no b w hb
      simp only [Bool.and_false, Bool.false_eq_true, if_false]
      clear hb
      go_enter Tryd.func23, Tryd.ntmps23
      go_wp2_with fail
      refine (hh _).mono ?_; rintro e w' ⟨rfl, rfl⟩
      go_wp2_with fail
      refine (hi _).mono ?_; rintro e w' ⟨rfl, rfl⟩
      go_wp2_with fail
      go_ret2
      exact ⟨rfl, rfl⟩
    · have hi := fun w => fixFits_yes b w hb
      obtain ⟨hb1, hb2⟩ := (fits_iff b).1 hb
      simp only [Bool.and_self, if_true]
      clear hb
      go_enter Tryd.func23, Tryd.ntmps23
      go_wp2_with fail
      refine (hh _).mono ?_; rintro e w' ⟨rfl, rfl⟩
      go_wp2_with fail
      refine (hi _).mono ?_; rintro e w' ⟨rfl, rfl⟩
      go_wp2_with fail
      refine (outcome_any _ _).mono ?_; rintro e w' ⟨rfl, rfl⟩
      go_wp2_with fail
      go_ret2
      exact ⟨rfl, rfl⟩
theorem size_any (n : Int) (w : World) (h1 : -9223372036854775807 ≤ n) (h2 : n ≤ 9223372036854775807) :
    Calls Tryd.prog 26 #[.int .i64 n] w fun e w' => e = .returned (.int .i64 (absI n)) ∧ w = w' := by
  by_cases h : n < 0
  · rw [absI_neg h]
    go_enter Tryd.func26, Tryd.ntmps26
    go_wp2
    go_ret
    exact ⟨rfl, rfl⟩
  · rw [absI_pos (by omega)]
    go_enter Tryd.func26, Tryd.ntmps26
    go_wp2
    go_ret
    exact ⟨rfl, rfl⟩
theorem nearest_any (n d : Int) (w : World) (n1 : -4611686018427387904 ≤ n) (n2 : n ≤ 4611686018427387904) (d1 : -2147483648 ≤ d) (d2 : d ≤ 2147483648) (hd : d ≠ 0) :
    Calls Tryd.prog 25 #[.int .i64 n, .int .i64 d] w fun e w' => e = .returned (.int .i64 (near n d)) ∧ ∃ k, w' = w.drewN k := by
  have q := tdiv_bd n d 4611686018427387904 (by omega) (by omega)
  have r := tmod_bd n d hd 2147483648 (by omega) (by omega)
  have s1 := absI_le (n.tmod d) 2147483648 (by omega) (by omega)
  have s2 := absI_le d 2147483648 (by omega) (by omega)
  have s3 := absI_nonneg (n.tmod d)
  have s4 := absI_nonneg d
  have hz : (d == 0) = false := by simp [hd]
  obtain ⟨q1, q2⟩ := q
  obtain ⟨r1, r2⟩ := r
  rw [near_of n d hd]
  by_cases h : 2 * absI (n.tmod d) < absI d
  · rw [if_pos h]
    go_enter Tryd.func25, Tryd.ntmps25
    go_wp2_with fail
    go_quiet (fail)
    go_wp2_with fail
    refine (size_any _ _ (by omega) (by omega)).mono ?_; rintro e w' ⟨rfl, rfl⟩
    go_wp2_with fail
    refine (size_any _ _ (by omega) (by omega)).mono ?_; rintro e w' ⟨rfl, rfl⟩
    go_wp2_with fail
    go_ret
    exact ⟨rfl, _, rfl⟩
  · rw [if_neg h]
    by_cases hn : n < 0 <;> by_cases hm : d < 0
    all_goals
      try rw [Int.tmod_eq_emod_of_nonneg (by omega)] at h s1 s3 r1 r2
      have e1 : decide (n < 0) = true ∨ decide (n < 0) = false := by simp; omega
      have e2 : decide (d < 0) = true ∨ decide (d < 0) = false := by simp; omega
      rcases e1 with e1 | e1 <;> rcases e2 with e2 | e2 <;> first | (exfalso; simp at e1 e2; omega) | skip
      simp only [hn, hm, decide_true, decide_false, bne_self_eq_false, Bool.false_eq_true, if_false, Bool.bne_true, Bool.bne_false, Bool.not_false, if_true]
      go_enter Tryd.func25, Tryd.ntmps25
      go_wp2_with fail
      go_quiet (fail)
      go_wp2_with fail
      refine (size_any _ _ (by omega) (by omega)).mono ?_; rintro e w' ⟨rfl, rfl⟩
      go_wp2_with fail
      refine (size_any _ _ (by omega) (by omega)).mono ?_; rintro e w' ⟨rfl, rfl⟩
      go_wp2_with fail
      go_ret
      exact ⟨rfl, _, rfl⟩
theorem fixMul_any (a b : Int) (w : World) :
    Calls Tryd.prog 24 #[.int .i64 a, .int .i64 b] w fun e w' => e = .returned (.tuple #[.int .i64 (mulV a b), .int .i64 (mulE a b)]) ∧ ∃ k, w' = w.drewN k := by
  unfold mulV mulE
  cases ha : fits a
  · have hh := fun w => fixFits_no a w ha
    simp only [Bool.false_and, Bool.false_eq_true, if_false]
    clear ha
    go_enter Tryd.func24, Tryd.ntmps24
    go_wp2_with fail
    refine (hh _).mono ?_; rintro e w' ⟨rfl, rfl⟩
    go_wp2_with fail
    go_ret2
    exact ⟨rfl, 0, rfl⟩
  · have hh := fun w => fixFits_yes a w ha
    obtain ⟨ha1, ha2⟩ := (fits_iff a).1 ha
    clear ha
    cases hb : fits b
    · have hi := fun w => fixFits_no b w hb
      simp only [Bool.and_false, Bool.false_eq_true, if_false]
      clear hb
      go_enter Tryd.func24, Tryd.ntmps24
      go_wp2_with fail
      refine (hh _).mono ?_; rintro e w' ⟨rfl, rfl⟩
      go_wp2_with fail
      refine (hi _).mono ?_; rintro e w' ⟨rfl, rfl⟩
      go_wp2_with fail
      go_ret2
      exact ⟨rfl, 0, rfl⟩
    · have hi := fun w => fixFits_yes b w hb
      obtain ⟨hb1, hb2⟩ := (fits_iff b).1 hb
      simp only [Bool.and_self, if_true]
      clear hb
      obtain ⟨p1, p2⟩ := prod_bd a b (by omega) (by omega) (by omega) (by omega)
      go_enter Tryd.func24, Tryd.ntmps24
      go_wp2_with fail
      refine (hh _).mono ?_; rintro e w' ⟨rfl, rfl⟩
      go_wp2_with fail
      refine (hi _).mono ?_; rintro e w' ⟨rfl, rfl⟩
      go_wp2_with fail
      refine (nearest_any _ _ _ p1 p2 (by omega) (by omega) (by omega)).mono ?_; rintro e w' ⟨rfl, k, rfl⟩
      go_wp2_with fail
      refine (outcome_any _ _).mono ?_; rintro e w' ⟨rfl, rfl⟩
      go_wp2_with fail
      go_ret2
      exact ⟨rfl, _, rfl⟩
end Go.Proofs.YtlgjlnbdfpncmaaDoor
