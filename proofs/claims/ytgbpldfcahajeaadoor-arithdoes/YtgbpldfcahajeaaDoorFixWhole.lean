/-
  The contracts of Floor, Ceiling, Round, Truncate and FromInt of package fix and of the document's own.
-/
import Derived.Test.YtgbpldfcahajeaaDoorFixWalks
namespace Go.Proofs.YtgbpldfcahajeaaDoor
open Go.RowKit
open Fx
theorem wholeBelow_any (n : Int) (w : World) (h1 : -9223372036854775808 ≤ n) (h2 : n ≤ 9223372036854775807) :
    Calls Tryd.prog 92 #[.int .i64 n] w fun e w' => e = .returned (.int .i64 (flo n)) ∧ w = w' := by
  unfold flo
  have hb := andNot_16 n h1 h2
  go_enter Tryd.func92, Tryd.ntmps92
  go_wp2
  go_ret
  exact ⟨rfl, rfl⟩
theorem below_any (a : Int) (w : World) (h : fits a = true) :
    Calls Tryd.prog 99 #[.int .i64 a] w fun e w' => e = .returned (.int .i64 (flo a)) ∧ w = w' := by
  obtain ⟨h1, h2⟩ := (fits_iff a).1 h
  clear h
  by_cases h0 : a < 0
  · have H := Lib.hid (tmod_one a h0)
    have t1 : -65536 < a.tmod 65536 := by have := H.out; omega
    have t2 : a.tmod 65536 ≤ 0 := by have := H.out; omega
    by_cases h3 : a.tmod 65536 < 0
    all_goals
      go_enter Tryd.func99, Tryd.ntmps99
      go_wp2
      go_ret
      refine ⟨ret_int ?_, rfl⟩
      unfold flo; have := H.out; omega
  · go_enter Tryd.func99, Tryd.ntmps99
    go_wp2
    go_ret
    refine ⟨ret_int ?_, rfl⟩
    unfold flo; omega
theorem fixFloor_any (a : Int) (w : World) :
    Calls Tryd.prog 44 #[.int .i64 a] w fun e w' => e = .returned (.int .i64 (floV a)) ∧ w = w' := by
  unfold floV
  cases h : fits a
  · rw [if_neg (by simp)]
    have hh := fun w => fixFits_no a w h
    clear h
    go_enter Tryd.func44, Tryd.ntmps44
    go_wp2_with fail
    refine (hh _).mono ?_; rintro e w' ⟨rfl, rfl⟩
    go_wp2_with fail
    go_ret
    exact ⟨rfl, rfl⟩
  · rw [if_pos rfl]
    have hh := fun w => fixFits_yes a w h
    obtain ⟨h1, h2⟩ := (fits_iff a).1 h
    clear h
    go_enter Tryd.func44, Tryd.ntmps44
    go_wp2_with fail
    refine (hh _).mono ?_; rintro e w' ⟨rfl, rfl⟩
    go_wp2_with fail
    refine (wholeBelow_any _ _ (by omega) (by omega)).mono ?_; rintro e w' ⟨rfl, rfl⟩
    go_wp2_with fail
    go_ret
    exact ⟨rfl, rfl⟩
theorem refFloor_any (a : Int) (w : World) :
    Calls Tryd.prog 79 #[.int .i64 a] w fun e w' => e = .returned (.int .i64 (floV a)) ∧ w = w' := by
  unfold floV
  cases h : fits a
  · rw [if_neg (by simp)]
    have hh := fun w => refFits_no a w h
    clear h
    go_enter Tryd.func79, Tryd.ntmps79
    go_wp2_with fail
    refine (hh _).mono ?_; rintro e w' ⟨rfl, rfl⟩
    go_wp2_with fail
    go_ret
    exact ⟨rfl, rfl⟩
  · rw [if_pos rfl]
    have hh := fun w => refFits_yes a w h
    have hi := fun w => below_any a w h
    clear h
    go_enter Tryd.func79, Tryd.ntmps79
    go_wp2_with fail
    refine (hh _).mono ?_; rintro e w' ⟨rfl, rfl⟩
    go_wp2_with fail
    refine (hi _).mono ?_; rintro e w' ⟨rfl, rfl⟩
    go_wp2_with fail
    go_ret
    exact ⟨rfl, rfl⟩
theorem fixCeiling_any (a : Int) (w : World) :
    Calls Tryd.prog 42 #[.int .i64 a] w fun e w' => e = .returned (.tuple #[.int .i64 (ceilV a), .int .i64 (ceilE a)]) ∧ w = w' := by
  unfold ceilV ceilE
  cases h : fits a
  · simp only [Bool.false_eq_true, if_false]
    have hh := fun w => fixFits_no a w h
    clear h
    go_enter Tryd.func42, Tryd.ntmps42
    go_wp2_with fail
    refine (hh _).mono ?_; rintro e w' ⟨rfl, rfl⟩
    go_wp2_with fail
    go_ret2
    exact ⟨rfl, rfl⟩
  · simp only [if_true]
    have hh := fun w => fixFits_yes a w h
    obtain ⟨h1, h2⟩ := (fits_iff a).1 h
    clear h
    go_enter Tryd.func42, Tryd.ntmps42
    go_wp2_with fail
    refine (hh _).mono ?_; rintro e w' ⟨rfl, rfl⟩
    go_wp2_with fail
    rw [show a + 65536 - 1 = a + 65535 from by omega]
    refine (wholeBelow_any _ _ (by omega) (by omega)).mono ?_; rintro e w' ⟨rfl, rfl⟩
    go_wp2_with fail
    refine (outcome_any _ _).mono ?_; rintro e w' ⟨rfl, rfl⟩
    go_wp2_with fail
    go_ret2
    exact ⟨rfl, rfl⟩
theorem fixRound_any (a : Int) (w : World) :
    Calls Tryd.prog 45 #[.int .i64 a] w fun e w' => e = .returned (.tuple #[.int .i64 (rouV a), .int .i64 (rouE a)]) ∧ w = w' := by
  unfold rouV rouE
  cases h : fits a
  · simp only [Bool.false_eq_true, if_false]
    have hh := fun w => fixFits_no a w h
    clear h
    go_enter Tryd.func45, Tryd.ntmps45
    go_wp2_with fail
    refine (hh _).mono ?_; rintro e w' ⟨rfl, rfl⟩
    go_wp2_with fail
    go_ret2
    exact ⟨rfl, rfl⟩
  · simp only [if_true]
    have hh := fun w => fixFits_yes a w h
    obtain ⟨h1, h2⟩ := (fits_iff a).1 h
    clear h
    go_enter Tryd.func45, Tryd.ntmps45
    go_wp2_with fail
    refine (hh _).mono ?_; rintro e w' ⟨rfl, rfl⟩
    go_wp2_with fail
    refine (wholeBelow_any _ _ (by omega) (by omega)).mono ?_; rintro e w' ⟨rfl, rfl⟩
    go_wp2_with fail
    refine (outcome_any _ _).mono ?_; rintro e w' ⟨rfl, rfl⟩
    go_wp2_with fail
    go_ret2
    exact ⟨rfl, rfl⟩
theorem refCeiling_any (a : Int) (w : World) :
    Calls Tryd.prog 76 #[.int .i64 a] w fun e w' => e = .returned (.tuple #[.int .i64 (ceilV a), .int .i64 (ceilE a)]) ∧ w = w' := by
  unfold ceilV ceilE
  cases h : fits a
  · simp only [Bool.false_eq_true, if_false]
    have hh := fun w => refFits_no a w h
    clear h
    go_enter Tryd.func76, Tryd.ntmps76
    go_wp2_with fail
    refine (hh _).mono ?_; rintro e w' ⟨rfl, rfl⟩
    go_wp2_with fail
    go_ret2
    exact ⟨rfl, rfl⟩
  · simp only [if_true]
    have hh := fun w => refFits_yes a w h
    have hi := fun w => below_any a w h
    obtain ⟨h1, h2⟩ := (fits_iff a).1 h
    obtain ⟨f1, f2, f3⟩ := flo_bd a
    have F3 := Lib.hid f3; clear f3
    by_cases h0 : flo a = a
    · have e : flo (a + 65535) = a := by have := F3.out; unfold flo at *; omega
      rw [e, outV_yes h, outE_yes h]
      have hb : (flo a == a) = true := by simp [h0]
      clear h h0 e
      go_enter Tryd.func76, Tryd.ntmps76
      go_wp2_with fail
      refine (hh _).mono ?_; rintro e w' ⟨rfl, rfl⟩
      go_wp2_with fail
      refine (hi _).mono ?_; rintro e w' ⟨rfl, rfl⟩
      go_wp2_with fail
      go_ret2
      exact ⟨rfl, rfl⟩
    · have e : flo (a + 65535) = flo a + 65536 := by have := F3.out; unfold flo at *; omega
      rw [e]
      have hb : (flo a == a) = false := by simp [h0]
      clear h h0 e
      go_enter Tryd.func76, Tryd.ntmps76
      go_wp2_with fail
      refine (hh _).mono ?_; rintro e w' ⟨rfl, rfl⟩
      go_wp2_with fail
      refine (hi _).mono ?_; rintro e w' ⟨rfl, rfl⟩
      go_wp2_with fail
      refine (hi _).mono ?_; rintro e w' ⟨rfl, rfl⟩
      go_wp2_with fail
      refine (keep_any _ _).mono ?_; rintro e w' ⟨rfl, rfl⟩
      go_wp2_with fail
      go_ret2
      exact ⟨rfl, rfl⟩
theorem refRound_any (a : Int) (w : World) :
    Calls Tryd.prog 77 #[.int .i64 a] w fun e w' => e = .returned (.tuple #[.int .i64 (rouV a), .int .i64 (rouE a)]) ∧ w = w' := by
  unfold rouV rouE
  cases h : fits a
  · simp only [Bool.false_eq_true, if_false]
    have hh := fun w => refFits_no a w h
    clear h
    go_enter Tryd.func77, Tryd.ntmps77
    go_wp2_with fail
    refine (hh _).mono ?_; rintro e w' ⟨rfl, rfl⟩
    go_wp2_with fail
    go_ret2
    exact ⟨rfl, rfl⟩
  · simp only [if_true]
    have hh := fun w => refFits_yes a w h
    have hi := fun w => below_any a w h
    obtain ⟨h1, h2⟩ := (fits_iff a).1 h
    obtain ⟨f1, f2, f3⟩ := flo_bd a
    have F3 := Lib.hid f3; clear f3
    by_cases h0 : 32768 ≤ a - flo a
    · have e : flo (a + 32768) = flo a + 65536 := by have := F3.out; unfold flo at *; omega
      rw [e]
      clear h e
      go_enter Tryd.func77, Tryd.ntmps77
      go_wp2_with fail
      refine (hh _).mono ?_; rintro e w' ⟨rfl, rfl⟩
      go_wp2_with fail
      refine (hi _).mono ?_; rintro e w' ⟨rfl, rfl⟩
      go_wp2_with fail
      refine (hi _).mono ?_; rintro e w' ⟨rfl, rfl⟩
      go_wp2_with fail
      refine (keep_any _ _).mono ?_; rintro e w' ⟨rfl, rfl⟩
      go_wp2_with fail
      go_ret2
      exact ⟨rfl, rfl⟩
    · have e : flo (a + 32768) = flo a := by have := F3.out; unfold flo at *; omega
      have hfl : fits (flo a) = true := by
        rw [fits_iff]; have := F3.out; unfold flo at *; omega
      rw [e, outV_yes hfl, outE_yes hfl]
      clear h e hfl
      go_enter Tryd.func77, Tryd.ntmps77
      go_wp2_with fail
      refine (hh _).mono ?_; rintro e w' ⟨rfl, rfl⟩
      go_wp2_with fail
      refine (hi _).mono ?_; rintro e w' ⟨rfl, rfl⟩
      go_wp2_with fail
      refine (hi _).mono ?_; rintro e w' ⟨rfl, rfl⟩
      go_wp2_with fail
      go_ret2
      exact ⟨rfl, rfl⟩
theorem fixTruncate_any (a : Int) (w : World) :
    Calls Tryd.prog 46 #[.int .i64 a] w fun e w' => e = .returned (.int .i64 (truV a)) ∧ w = w' := by
  unfold truV
  cases h : fits a
  · rw [if_neg (by simp)]
    have hh := fun w => fixFits_no a w h
    clear h
    go_enter Tryd.func46, Tryd.ntmps46
    go_wp2_with fail
    refine (hh _).mono ?_; rintro e w' ⟨rfl, rfl⟩
    go_wp2_with fail
    go_ret
    exact ⟨rfl, rfl⟩
  · rw [if_pos rfl]
    have hh := fun w => fixFits_yes a w h
    obtain ⟨t1, t2⟩ := tdiv_one_bd a h
    clear h
    by_cases h0 : a < 0
    · go_enter Tryd.func46, Tryd.ntmps46
      go_wp2_with fail
      refine (hh _).mono ?_; rintro e w' ⟨rfl, rfl⟩
      go_wp2_with fail
      go_ret
      exact ⟨rfl, rfl⟩
    · have T := Lib.hid (Int.tdiv_eq_ediv_of_nonneg (a := a) (b := 65536) (by omega))
      rw [T.out] at t1 t2
      go_enter Tryd.func46, Tryd.ntmps46
      go_wp2_with fail
      refine (hh _).mono ?_; rintro e w' ⟨rfl, rfl⟩
      go_wp2_with fail
      go_ret
      exact ⟨by rw [T.out]; rfl, rfl⟩
theorem refTruncate_any (a : Int) (w : World) :
    Calls Tryd.prog 80 #[.int .i64 a] w fun e w' => e = .returned (.int .i64 (truV a)) ∧ w = w' := by
  unfold truV
  cases h : fits a
  · rw [if_neg (by simp)]
    have hh := fun w => refFits_no a w h
    clear h
    go_enter Tryd.func80, Tryd.ntmps80
    go_wp2_with fail
    refine (hh _).mono ?_; rintro e w' ⟨rfl, rfl⟩
    go_wp2_with fail
    go_ret
    exact ⟨rfl, rfl⟩
  · rw [if_pos rfl]
    have hh := fun w => refFits_yes a w h
    obtain ⟨t1, t2⟩ := tdiv_one_bd a h
    clear h
    by_cases h0 : a < 0
    · go_enter Tryd.func80, Tryd.ntmps80
      go_wp2_with fail
      refine (hh _).mono ?_; rintro e w' ⟨rfl, rfl⟩
      go_wp2_with fail
      go_ret
      exact ⟨rfl, rfl⟩
    · have T := Lib.hid (Int.tdiv_eq_ediv_of_nonneg (a := a) (b := 65536) (by omega))
      rw [T.out] at t1 t2
      go_enter Tryd.func80, Tryd.ntmps80
      go_wp2_with fail
      refine (hh _).mono ?_; rintro e w' ⟨rfl, rfl⟩
      go_wp2_with fail
      go_ret
      exact ⟨by rw [T.out]; rfl, rfl⟩
theorem fixFromInt_any (n : Int) (w : World) :
    Calls Tryd.prog 101 #[.int .i64 n] w fun e w' => e = .returned (.tuple #[.int .i64 (frV n), .int .i64 (frE n)]) ∧ w = w' := by
  unfold frV frE
  by_cases h1 : -32768 ≤ n
  · by_cases h2 : n ≤ 32767
    · simp only [h1, h2, decide_true, Bool.and_self, if_true]
      go_enter Tryd.func101, Tryd.ntmps101
      go_wp2
      go_ret2
      exact ⟨rfl, rfl⟩
    · simp only [h1, h2, decide_true, decide_false, Bool.and_false, Bool.false_eq_true, if_false]
      go_enter Tryd.func101, Tryd.ntmps101
      go_wp2
      go_ret2
      exact ⟨rfl, rfl⟩
  · simp only [h1, decide_false, Bool.false_and, Bool.false_eq_true, if_false]
    go_enter Tryd.func101, Tryd.ntmps101
    go_wp2
    go_ret2
    exact ⟨rfl, rfl⟩
theorem refFromInt_any (n : Int) (w : World) :
    Calls Tryd.prog 81 #[.int .i64 n] w fun e w' => e = .returned (.tuple #[.int .i64 (frV n), .int .i64 (frE n)]) ∧ w = w' := by
  unfold frV frE
  by_cases h1 : -32768 ≤ n
  · by_cases h2 : n ≤ 32767
    · simp only [h1, h2, decide_true, Bool.and_self, if_true]
      go_enter Tryd.func81, Tryd.ntmps81
      go_wp2
      go_ret2
      exact ⟨rfl, rfl⟩
    · simp only [h1, h2, decide_true, decide_false, Bool.and_false, Bool.false_eq_true, if_false]
      go_enter Tryd.func81, Tryd.ntmps81
      go_wp2
      go_ret2
      exact ⟨rfl, rfl⟩
  · simp only [h1, decide_false, Bool.false_and, Bool.false_eq_true, if_false]
    go_enter Tryd.func81, Tryd.ntmps81
    go_wp2
    go_ret2
    exact ⟨rfl, rfl⟩
end Go.Proofs.YtgbpldfcahajeaaDoor
