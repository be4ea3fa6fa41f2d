/-
  The contracts of the functions of package fix and of the document's own (ref01), one by one.
-/
import Derived.Test.YtgbpldfcahajeaaDoorRows
import Derived.Test.YtgbpldfcahajeaaDoorFixMath
import Derived.WalkKit
import Derived.WalkSpells
import Derived.BigQuiet
import Derived.Deep.QuietTactic
import Derived.Lib.Hide
import Derived.Test.YtgbpldfcahajeaaDoorFixBits
namespace Go.Proofs.YtgbpldfcahajeaaDoor
open Go.RowKit
open Fx
theorem ret_int {k : IntKind} {a b : Int} (h : a = b) : Ending.returned (.int k a) = .returned (.int k b) := by rw [h]

theorem fixFits_any (n : Int) (w : World) :
    Calls Tryd.prog 90 #[.int .i64 n] w fun e w' => e = .returned (.bool (fits n)) ∧ w = w' := by
  unfold fits
  by_cases h1 : -2147483648 ≤ n
  · go_enter Tryd.func90, Tryd.ntmps90
    go_wp2
    go_ret
    exact ⟨by simp [h1], rfl⟩
  · go_enter Tryd.func90, Tryd.ntmps90
    go_wp2
    go_ret
    exact ⟨by simp; omega, rfl⟩
theorem fixFits_yes (n : Int) (w : World) (h : fits n = true) :
    Calls Tryd.prog 90 #[.int .i64 n] w fun e w' => e = .returned (.bool true) ∧ w = w' := by
  have := fixFits_any n w; rwa [h] at this
theorem fixFits_no (n : Int) (w : World) (h : fits n = false) :
    Calls Tryd.prog 90 #[.int .i64 n] w fun e w' => e = .returned (.bool false) ∧ w = w' := by
  have := fixFits_any n w; rwa [h] at this
theorem refFits_any (n : Int) (w : World) :
    Calls Tryd.prog 38 #[.int .i64 n] w fun e w' => e = .returned (.bool (fits n)) ∧ w = w' := by
  unfold fits
  by_cases h1 : -2147483648 ≤ n
  · go_enter Tryd.func38, Tryd.ntmps38
    go_wp2
    go_ret
    exact ⟨by simp [h1], rfl⟩
  · go_enter Tryd.func38, Tryd.ntmps38
    go_wp2
    go_ret
    exact ⟨by simp; omega, rfl⟩
theorem refFits_yes (n : Int) (w : World) (h : fits n = true) :
    Calls Tryd.prog 38 #[.int .i64 n] w fun e w' => e = .returned (.bool true) ∧ w = w' := by
  have := refFits_any n w; rwa [h] at this
theorem refFits_no (n : Int) (w : World) (h : fits n = false) :
    Calls Tryd.prog 38 #[.int .i64 n] w fun e w' => e = .returned (.bool false) ∧ w = w' := by
  have := refFits_any n w; rwa [h] at this
theorem outcome_any (n : Int) (w : World) :
    Calls Tryd.prog 91 #[.int .i64 n] w fun e w' => e = .returned (.tuple #[.int .i64 (outV n), .int .i64 (outE n)]) ∧ w = w' := by
  cases h : fits n
  · rw [outV_no h, outE_no h]
    have hh := fun w => fixFits_no n w h
    clear h
    go_enter Tryd.func91, Tryd.ntmps91
    go_wp2_with (go_at_call 90; refine (hh _).mono ?_; rintro e w' ⟨rfl, rfl⟩)
    go_ret2
    exact ⟨rfl, rfl⟩
  · rw [outV_yes h, outE_yes h]
    have hh := fun w => fixFits_yes n w h
    clear h
    go_enter Tryd.func91, Tryd.ntmps91
    go_wp2_with (go_at_call 90; refine (hh _).mono ?_; rintro e w' ⟨rfl, rfl⟩)
    go_ret2
    exact ⟨rfl, rfl⟩
theorem keep_any (n : Int) (w : World) :
    Calls Tryd.prog 82 #[.int .i64 n] w fun e w' => e = .returned (.tuple #[.int .i64 (outV n), .int .i64 (outE n)]) ∧ w = w' := by
  cases h : fits n
  · rw [outV_no h, outE_no h]
    have hh := fun w => refFits_no n w h
    clear h
    go_enter Tryd.func82, Tryd.ntmps82
    go_wp2_with (go_at_call 38; refine (hh _).mono ?_; rintro e w' ⟨rfl, rfl⟩)
    go_ret2
    exact ⟨rfl, rfl⟩
  · rw [outV_yes h, outE_yes h]
    have hh := fun w => refFits_yes n w h
    clear h
    go_enter Tryd.func82, Tryd.ntmps82
    go_wp2_with (go_at_call 38; refine (hh _).mono ?_; rintro e w' ⟨rfl, rfl⟩)
    go_ret2
    exact ⟨rfl, rfl⟩
theorem fixAdd_any (a b : Int) (w : World) :
    Calls Tryd.prog 54 #[.int .i64 a, .int .i64 b] w fun e w' => e = .returned (.tuple #[.int .i64 (addV a b), .int .i64 (addE a b)]) ∧ w = w' := by
  unfold addV addE
  cases ha : fits a
  · have hh := fun w => fixFits_no a w ha
    simp only [Bool.false_and, Bool.false_eq_true, if_false]
    clear ha
    go_enter Tryd.func54, Tryd.ntmps54
    go_wp2_with fail
    refine (hh _).mono ?_; rintro e w' ⟨rfl, rfl⟩
    go_wp2_with fail
    go_ret2
    exact ⟨rfl, rfl⟩
  · have hh := fun w => fixFits_yes a w ha
    obtain ⟨ha1, ha2⟩ := (fits_iff a).1 ha
    clear ha
    cases hb : fits b
    · have hi := fun w => fixFits_no b w hb
      simp only [Bool.and_false, Bool.false_eq_true, if_false]
      clear hb
      go_enter Tryd.func54, Tryd.ntmps54
      go_wp2_with fail
      refine (hh _).mono ?_; rintro e w' ⟨rfl, rfl⟩
      go_wp2_with fail
      refine (hi _).mono ?_; rintro e w' ⟨rfl, rfl⟩
      go_wp2_with fail
      go_ret2
      exact ⟨rfl, rfl⟩
    · have hi := fun w => fixFits_yes b w hb
      obtain ⟨hb1, hb2⟩ := (fits_iff b).1 hb
      simp only [Bool.and_self, if_true]
      clear hb
      go_enter Tryd.func54, Tryd.ntmps54
      go_wp2_with fail
      refine (hh _).mono ?_; rintro e w' ⟨rfl, rfl⟩
      go_wp2_with fail
      refine (hi _).mono ?_; rintro e w' ⟨rfl, rfl⟩
      go_wp2_with fail
      refine (outcome_any _ _).mono ?_; rintro e w' ⟨rfl, rfl⟩
      go_wp2_with fail
      go_ret2
      exact ⟨rfl, rfl⟩
theorem fixSub_any (a b : Int) (w : World) :
    Calls Tryd.prog 56 #[.int .i64 a, .int .i64 b] w fun e w' => e = .returned (.tuple #[.int .i64 (subV a b), .int .i64 (subE a b)]) ∧ w = w' := by
  unfold subV subE
  cases ha : fits a
  · have hh := fun w => fixFits_no a w ha
    simp only [Bool.false_and, Bool.false_eq_true, if_false]
    clear ha
    go_enter Tryd.func56, Tryd.ntmps56
    go_wp2_with fail
    refine (hh _).mono ?_; rintro e w' ⟨rfl, rfl⟩
    go_wp2_with fail
    go_ret2
    exact ⟨rfl, rfl⟩
  · have hh := fun w => fixFits_yes a w ha
    obtain ⟨ha1, ha2⟩ := (fits_iff a).1 ha
    clear ha
    cases hb : fits b
    · have hi := fun w => fixFits_no b w hb
      simp only [Bool.and_false, Bool.false_eq_true, if_false]
      clear hb
      go_enter Tryd.func56, Tryd.ntmps56
      go_wp2_with fail
      refine (hh _).mono ?_; rintro e w' ⟨rfl, rfl⟩
      go_wp2_with fail
      refine (hi _).mono ?_; rintro e w' ⟨rfl, rfl⟩
      go_wp2_with fail
      go_ret2
      exact ⟨rfl, rfl⟩
    · have hi := fun w => fixFits_yes b w hb
      obtain ⟨hb1, hb2⟩ := (fits_iff b).1 hb
      simp only [Bool.and_self, if_true]
      clear hb
      go_enter Tryd.func56, Tryd.ntmps56
      go_wp2_with fail
      refine (hh _).mono ?_; rintro e w' ⟨rfl, rfl⟩
      go_wp2_with fail
      refine (hi _).mono ?_; rintro e w' ⟨rfl, rfl⟩
      go_wp2_with fail
      refine (outcome_any _ _).mono ?_; rintro e w' ⟨rfl, rfl⟩
      go_wp2_with fail
      go_ret2
      exact ⟨rfl, rfl⟩
theorem refAdd_any (a b : Int) (w : World) :
    Calls Tryd.prog 31 #[.int .i64 a, .int .i64 b] w fun e w' => e = .returned (.tuple #[.int .i64 (addV a b), .int .i64 (addE a b)]) ∧ w = w' := by
  unfold addV addE
  cases ha : fits a
  · have hh := fun w => refFits_no a w ha
    simp only [Bool.false_and, Bool.false_eq_true, if_false]
    clear ha
    go_enter Tryd.func31, Tryd.ntmps31
    go_wp2_with fail
    refine (hh _).mono ?_; rintro e w' ⟨rfl, rfl⟩
    go_wp2_with fail
    go_ret2
    exact ⟨rfl, rfl⟩
  · have hh := fun w => refFits_yes a w ha
    obtain ⟨ha1, ha2⟩ := (fits_iff a).1 ha
    clear ha
    cases hb : fits b
    · have hi := fun w => refFits_no b w hb
      simp only [Bool.and_false, Bool.false_eq_true, if_false]
      clear hb
      go_enter Tryd.func31, Tryd.ntmps31
      go_wp2_with fail
      refine (hh _).mono ?_; rintro e w' ⟨rfl, rfl⟩
      go_wp2_with fail
      refine (hi _).mono ?_; rintro e w' ⟨rfl, rfl⟩
      go_wp2_with fail
      go_ret2
      exact ⟨rfl, rfl⟩
    · have hi := fun w => refFits_yes b w hb
      obtain ⟨hb1, hb2⟩ := (fits_iff b).1 hb
      simp only [Bool.and_self, if_true]
      clear hb
      go_enter Tryd.func31, Tryd.ntmps31
      go_wp2_with fail
      refine (hh _).mono ?_; rintro e w' ⟨rfl, rfl⟩
      go_wp2_with fail
      refine (hi _).mono ?_; rintro e w' ⟨rfl, rfl⟩
      go_wp2_with fail
      refine (keep_any _ _).mono ?_; rintro e w' ⟨rfl, rfl⟩
      go_wp2_with fail
      go_ret2
      exact ⟨rfl, rfl⟩
theorem refSub_any (a b : Int) (w : World) :
    Calls Tryd.prog 32 #[.int .i64 a, .int .i64 b] w fun e w' => e = .returned (.tuple #[.int .i64 (subV a b), .int .i64 (subE a b)]) ∧ w = w' := by
  unfold subV subE
  cases ha : fits a
  · have hh := fun w => refFits_no a w ha
    simp only [Bool.false_and, Bool.false_eq_true, if_false]
    clear ha
    go_enter Tryd.func32, Tryd.ntmps32
    go_wp2_with fail
    refine (hh _).mono ?_; rintro e w' ⟨rfl, rfl⟩
    go_wp2_with fail
    go_ret2
    exact ⟨rfl, rfl⟩
  · have hh := fun w => refFits_yes a w ha
    obtain ⟨ha1, ha2⟩ := (fits_iff a).1 ha
    clear ha
    cases hb : fits b
    · have hi := fun w => refFits_no b w hb
      simp only [Bool.and_false, Bool.false_eq_true, if_false]
      clear hb
      go_enter Tryd.func32, Tryd.ntmps32
      go_wp2_with fail
      refine (hh _).mono ?_; rintro e w' ⟨rfl, rfl⟩
      go_wp2_with fail
      refine (hi _).mono ?_; rintro e w' ⟨rfl, rfl⟩
      go_wp2_with fail
      go_ret2
      exact ⟨rfl, rfl⟩
    · have hi := fun w => refFits_yes b w hb
      obtain ⟨hb1, hb2⟩ := (fits_iff b).1 hb
      simp only [Bool.and_self, if_true]
      clear hb
      go_enter Tryd.func32, Tryd.ntmps32
      go_wp2_with fail
      refine (hh _).mono ?_; rintro e w' ⟨rfl, rfl⟩
      go_wp2_with fail
      refine (hi _).mono ?_; rintro e w' ⟨rfl, rfl⟩
      go_wp2_with fail
      refine (keep_any _ _).mono ?_; rintro e w' ⟨rfl, rfl⟩
      go_wp2_with fail
      go_ret2
      exact ⟨rfl, rfl⟩
theorem size_any (n : Int) (w : World) (h1 : -9223372036854775807 ≤ n) (h2 : n ≤ 9223372036854775807) :
    Calls Tryd.prog 103 #[.int .i64 n] w fun e w' => e = .returned (.int .i64 (absI n)) ∧ w = w' := by
  by_cases h : n < 0
  · rw [absI_neg h]
    go_enter Tryd.func103, Tryd.ntmps103
    go_wp2
    go_ret
    exact ⟨rfl, rfl⟩
  · rw [absI_pos (by omega)]
    go_enter Tryd.func103, Tryd.ntmps103
    go_wp2
    go_ret
    exact ⟨rfl, rfl⟩
theorem nearest_any (n d : Int) (w : World) (n1 : -4611686018427387904 ≤ n) (n2 : n ≤ 4611686018427387904) (d1 : -2147483648 ≤ d) (d2 : d ≤ 2147483648) (hd : d ≠ 0) :
    Calls Tryd.prog 97 #[.int .i64 n, .int .i64 d] w fun e w' => e = .returned (.int .i64 (near n d)) ∧ ∃ k, w' = w.drewN k := by
  have q := tdiv_bd n d 4611686018427387904 (by omega) (by omega)
  have r := tmod_bd n d hd 2147483648 (by omega) (by omega)
  have s1 := absI_le (n.tmod d) 2147483648 (by omega) (by omega)
  have s2 := absI_le d 2147483648 (by omega) (by omega)
  have s3 := absI_nonneg (n.tmod d)
  have s4 := absI_nonneg d
  have hz : (d == 0) = false := by simp [hd]
  obtain ⟨q1, q2⟩ := q
  obtain ⟨r1, r2⟩ := r
  rw [near_of n d hd]
  by_cases h : 2 * absI (n.tmod d) < absI d
  · rw [if_pos h]
    go_enter Tryd.func97, Tryd.ntmps97
    go_wp2_with fail
    go_quiet (fail)
    go_wp2_with fail
    refine (size_any _ _ (by omega) (by omega)).mono ?_; rintro e w' ⟨rfl, rfl⟩
    go_wp2_with fail
    refine (size_any _ _ (by omega) (by omega)).mono ?_; rintro e w' ⟨rfl, rfl⟩
    go_wp2_with fail
    go_ret
    exact ⟨rfl, _, rfl⟩
  · rw [if_neg h]
    by_cases hn : n < 0 <;> by_cases hm : d < 0
    all_goals
      try rw [Int.tmod_eq_emod_of_nonneg (by omega)] at h s1 s3 r1 r2
      have e1 : decide (n < 0) = true ∨ decide (n < 0) = false := by simp; omega
      have e2 : decide (d < 0) = true ∨ decide (d < 0) = false := by simp; omega
      rcases e1 with e1 | e1 <;> rcases e2 with e2 | e2 <;> first | (exfalso; simp at e1 e2; omega) | skip
      simp only [hn, hm, decide_true, decide_false, bne_self_eq_false, Bool.false_eq_true, if_false, Bool.bne_true, Bool.bne_false, Bool.not_false, if_true]
      go_enter Tryd.func97, Tryd.ntmps97
      go_wp2_with fail
      go_quiet (fail)
      go_wp2_with fail
      refine (size_any _ _ (by omega) (by omega)).mono ?_; rintro e w' ⟨rfl, rfl⟩
      go_wp2_with fail
      refine (size_any _ _ (by omega) (by omega)).mono ?_; rintro e w' ⟨rfl, rfl⟩
      go_wp2_with fail
      go_ret
      exact ⟨rfl, _, rfl⟩
theorem rounded_any (n d : Int) (w : World) (n1 : -4611686018427387904 ≤ n) (n2 : n ≤ 4611686018427387904) (d1 : -2147483648 ≤ d) (d2 : d ≤ 2147483648) (hd : d ≠ 0) :
    Calls Tryd.prog 83 #[.int .i64 n, .int .i64 d] w fun e w' => e = .returned (.int .i64 (near n d)) ∧ ∃ k, w' = w.drewN k := by
  have H0 := Lib.hid (near_of n d hd)
  have q := tdiv_bd n d 4611686018427387904 (by omega) (by omega)
  have r := tmod_bd n d hd 2147483648 (by omega) (by omega)
  obtain ⟨q1, q2⟩ := q
  obtain ⟨r1, r2⟩ := r
  have p := absI_ne d hd
  by_cases hn : n < 0 <;> by_cases hm : d < 0
  · have r3 : n.tmod d ≤ 0 := by have := Int.tmod_nonneg d (a := -n) (by omega); rw [Int.neg_tmod] at this; omega
    have hz : (-d == 0) = false := by simp [hd]
    have e1 : decide (n < 0) = true := by simp [hn]
    have e2 : decide (d < 0) = true := by simp [hm]
    by_cases h : 2 * -(n.tmod d) < -d
    all_goals
      go_enter Tryd.func83, Tryd.ntmps83
      go_wp2
      go_quiet (fail)
      go_wp2
      go_ret
      refine ⟨ret_int ?_, _, rfl⟩
      rw [H0.out]; unfold absI; simp only [e1, e2]; split <;> simp <;> omega
  · have r3 : n.tmod d ≤ 0 := by have := Int.tmod_nonneg d (a := -n) (by omega); rw [Int.neg_tmod] at this; omega
    have hz : (d == 0) = false := by simp [hd]
    have e1 : decide (n < 0) = true := by simp [hn]
    have e2 : decide (d < 0) = false := by simp [hm]
    by_cases h : 2 * -(n.tmod d) < d
    all_goals
      go_enter Tryd.func83, Tryd.ntmps83
      go_wp2
      go_quiet (fail)
      go_wp2
      go_ret
      refine ⟨ret_int ?_, _, rfl⟩
      rw [H0.out]; unfold absI; simp only [e1, e2]; split <;> simp <;> omega
  · obtain ⟨c, rfl⟩ : ∃ c : Int, d = -c := ⟨-d, by omega⟩
    have q3 := ediv_bd n c (by omega) (by omega)
    have r3 := emod_bd n c (by omega)
    obtain ⟨q3, q4⟩ := q3
    obtain ⟨r3, r4⟩ := r3
    clear q1 q2 r1 r2 p
    have hz : (c == 0) = false := by simp; omega
    have e1 : decide (n < 0) = false := by simp [hn]
    have e2 : decide (-c < 0) = true := by simp; omega
    by_cases h : 2 * (n % c) < c
    all_goals
      go_enter Tryd.func83, Tryd.ntmps83
      go_wp2
      go_quiet (fail)
      go_wp2
      go_ret
      refine ⟨ret_int ?_, _, rfl⟩
      rw [H0.out, Int.tmod_neg, Int.tdiv_neg, Int.tmod_eq_emod_of_nonneg (by omega), Int.tdiv_eq_ediv_of_nonneg (by omega), absI_pos (n := n % c) r3, absI_neg (n := -c) (by omega), e1, e2]; split <;> simp <;> omega
  · rw [Int.tmod_eq_emod_of_nonneg (by omega)] at r1 r2
    have r3 := Int.emod_nonneg n hd
    have hz : (d == 0) = false := by simp [hd]
    have e1 : decide (n < 0) = false := by simp [hn]
    have e2 : decide (d < 0) = false := by simp [hm]
    have t1 := Int.tdiv_eq_ediv_of_nonneg (a := n) (b := d) (by omega)
    rw [t1] at q1 q2
    have T1 := Lib.hid t1; clear t1
    by_cases h : 2 * (n % d) < d
    all_goals
      go_enter Tryd.func83, Tryd.ntmps83
      go_wp2
      go_quiet (fail)
      go_wp2
      go_ret
      refine ⟨ret_int ?_, _, rfl⟩
      rw [H0.out, Int.tmod_eq_emod_of_nonneg (by omega)]; unfold absI; simp only [e1, e2, T1.out]; split <;> first | omega | (simp; omega)
theorem fixMul_any (a b : Int) (w : World) :
    Calls Tryd.prog 58 #[.int .i64 a, .int .i64 b] w fun e w' => e = .returned (.tuple #[.int .i64 (mulV a b), .int .i64 (mulE a b)]) ∧ ∃ k, w' = w.drewN k := by
  unfold mulV mulE
  cases ha : fits a
  · have hh := fun w => fixFits_no a w ha
    simp only [Bool.false_and, Bool.false_eq_true, if_false]
    clear ha
    go_enter Tryd.func58, Tryd.ntmps58
    go_wp2_with fail
    refine (hh _).mono ?_; rintro e w' ⟨rfl, rfl⟩
    go_wp2_with fail
    go_ret2
    exact ⟨rfl, 0, rfl⟩
  · have hh := fun w => fixFits_yes a w ha
    obtain ⟨ha1, ha2⟩ := (fits_iff a).1 ha
    clear ha
    cases hb : fits b
    · have hi := fun w => fixFits_no b w hb
      simp only [Bool.and_false, Bool.false_eq_true, if_false]
      clear hb
      go_enter Tryd.func58, Tryd.ntmps58
      go_wp2_with fail
      refine (hh _).mono ?_; rintro e w' ⟨rfl, rfl⟩
      go_wp2_with fail
      refine (hi _).mono ?_; rintro e w' ⟨rfl, rfl⟩
      go_wp2_with fail
      go_ret2
      exact ⟨rfl, 0, rfl⟩
    · have hi := fun w => fixFits_yes b w hb
      obtain ⟨hb1, hb2⟩ := (fits_iff b).1 hb
      simp only [Bool.and_self, if_true]
      clear hb
      obtain ⟨p1, p2⟩ := prod_bd a b (by omega) (by omega) (by omega) (by omega)
      go_enter Tryd.func58, Tryd.ntmps58
      go_wp2_with fail
      refine (hh _).mono ?_; rintro e w' ⟨rfl, rfl⟩
      go_wp2_with fail
      refine (hi _).mono ?_; rintro e w' ⟨rfl, rfl⟩
      go_wp2_with fail
      refine (nearest_any _ _ _ p1 p2 (by omega) (by omega) (by omega)).mono ?_; rintro e w' ⟨rfl, k, rfl⟩
      go_wp2_with fail
      refine (outcome_any _ _).mono ?_; rintro e w' ⟨rfl, rfl⟩
      go_wp2_with fail
      go_ret2
      exact ⟨rfl, _, rfl⟩
theorem fixDiv_any (a b : Int) (w : World) :
    Calls Tryd.prog 60 #[.int .i64 a, .int .i64 b] w fun e w' => e = .returned (.tuple #[.int .i64 (divV a b), .int .i64 (divE a b)]) ∧ ∃ k, w' = w.drewN k := by
  unfold divV divE
  cases ha : fits a
  · have hh := fun w => fixFits_no a w ha
    simp only [Bool.false_and, Bool.false_eq_true, if_false]
    clear ha
    go_enter Tryd.func60, Tryd.ntmps60
    go_wp2_with fail
    refine (hh _).mono ?_; rintro e w' ⟨rfl, rfl⟩
    go_wp2_with fail
    go_ret2
    exact ⟨rfl, 0, rfl⟩
  · have hh := fun w => fixFits_yes a w ha
    obtain ⟨ha1, ha2⟩ := (fits_iff a).1 ha
    clear ha
    cases hb : fits b
    · have hi := fun w => fixFits_no b w hb
      simp only [Bool.and_false, Bool.false_eq_true, if_false]
      clear hb
      go_enter Tryd.func60, Tryd.ntmps60
      go_wp2_with fail
      refine (hh _).mono ?_; rintro e w' ⟨rfl, rfl⟩
      go_wp2_with fail
      refine (hi _).mono ?_; rintro e w' ⟨rfl, rfl⟩
      go_wp2_with fail
      go_ret2
      exact ⟨rfl, 0, rfl⟩
    · have hi := fun w => fixFits_yes b w hb
      obtain ⟨hb1, hb2⟩ := (fits_iff b).1 hb
      simp only [Bool.and_self, if_true]
      clear hb
      by_cases hz : b = 0
      · subst hz
        simp only [if_true]
        go_enter Tryd.func60, Tryd.ntmps60
        go_wp2_with fail
        refine (hh _).mono ?_; rintro e w' ⟨rfl, rfl⟩
        go_wp2_with fail
        refine (hi _).mono ?_; rintro e w' ⟨rfl, rfl⟩
        go_wp2_with fail
        go_ret2
        exact ⟨rfl, 0, rfl⟩
      · have hz' : (b == 0) = false := by simp [hz]
        simp only [hz, if_false]
        go_enter Tryd.func60, Tryd.ntmps60
        go_wp2_with fail
        refine (hh _).mono ?_; rintro e w' ⟨rfl, rfl⟩
        go_wp2_with fail
        refine (hi _).mono ?_; rintro e w' ⟨rfl, rfl⟩
        go_wp2_with fail
        refine (nearest_any _ _ _ (by omega) (by omega) (by omega) (by omega) hz).mono ?_; rintro e w' ⟨rfl, k, rfl⟩
        go_wp2_with fail
        refine (outcome_any _ _).mono ?_; rintro e w' ⟨rfl, rfl⟩
        go_wp2_with fail
        go_ret2
        exact ⟨rfl, _, rfl⟩
theorem refMul_any (a b : Int) (w : World) :
    Calls Tryd.prog 33 #[.int .i64 a, .int .i64 b] w fun e w' => e = .returned (.tuple #[.int .i64 (mulV a b), .int .i64 (mulE a b)]) ∧ ∃ k, w' = w.drewN k := by
  unfold mulV mulE
  cases ha : fits a
  · have hh := fun w => refFits_no a w ha
    simp only [Bool.false_and, Bool.false_eq_true, if_false]
    clear ha
    go_enter Tryd.func33, Tryd.ntmps33
    go_wp2_with fail
    refine (hh _).mono ?_; rintro e w' ⟨rfl, rfl⟩
    go_wp2_with fail
    go_ret2
    exact ⟨rfl, 0, rfl⟩
  · have hh := fun w => refFits_yes a w ha
    obtain ⟨ha1, ha2⟩ := (fits_iff a).1 ha
    clear ha
    cases hb : fits b
    · have hi := fun w => refFits_no b w hb
      simp only [Bool.and_false, Bool.false_eq_true, if_false]
      clear hb
      go_enter Tryd.func33, Tryd.ntmps33
      go_wp2_with fail
      refine (hh _).mono ?_; rintro e w' ⟨rfl, rfl⟩
      go_wp2_with fail
      refine (hi _).mono ?_; rintro e w' ⟨rfl, rfl⟩
      go_wp2_with fail
      go_ret2
      exact ⟨rfl, 0, rfl⟩
    · have hi := fun w => refFits_yes b w hb
      obtain ⟨hb1, hb2⟩ := (fits_iff b).1 hb
      simp only [Bool.and_self, if_true]
      clear hb
      obtain ⟨p1, p2⟩ := prod_bd a b (by omega) (by omega) (by omega) (by omega)
      go_enter Tryd.func33, Tryd.ntmps33
      go_wp2_with fail
      refine (hh _).mono ?_; rintro e w' ⟨rfl, rfl⟩
      go_wp2_with fail
      refine (hi _).mono ?_; rintro e w' ⟨rfl, rfl⟩
      go_wp2_with fail
      refine (rounded_any _ _ _ p1 p2 (by omega) (by omega) (by omega)).mono ?_; rintro e w' ⟨rfl, k, rfl⟩
      go_wp2_with fail
      refine (keep_any _ _).mono ?_; rintro e w' ⟨rfl, rfl⟩
      go_wp2_with fail
      go_ret2
      exact ⟨rfl, _, rfl⟩
theorem refDiv_any (a b : Int) (w : World) :
    Calls Tryd.prog 34 #[.int .i64 a, .int .i64 b] w fun e w' => e = .returned (.tuple #[.int .i64 (divV a b), .int .i64 (divE a b)]) ∧ ∃ k, w' = w.drewN k := by
  unfold divV divE
  cases ha : fits a
  · have hh := fun w => refFits_no a w ha
    simp only [Bool.false_and, Bool.false_eq_true, if_false]
    clear ha
    go_enter Tryd.func34, Tryd.ntmps34
    go_wp2_with fail
    refine (hh _).mono ?_; rintro e w' ⟨rfl, rfl⟩
    go_wp2_with fail
    go_ret2
    exact ⟨rfl, 0, rfl⟩
  · have hh := fun w => refFits_yes a w ha
    obtain ⟨ha1, ha2⟩ := (fits_iff a).1 ha
    clear ha
    cases hb : fits b
    · have hi := fun w => refFits_no b w hb
      simp only [Bool.and_false, Bool.false_eq_true, if_false]
      clear hb
      go_enter Tryd.func34, Tryd.ntmps34
      go_wp2_with fail
      refine (hh _).mono ?_; rintro e w' ⟨rfl, rfl⟩
      go_wp2_with fail
      refine (hi _).mono ?_; rintro e w' ⟨rfl, rfl⟩
      go_wp2_with fail
      go_ret2
      exact ⟨rfl, 0, rfl⟩
    · have hi := fun w => refFits_yes b w hb
      obtain ⟨hb1, hb2⟩ := (fits_iff b).1 hb
      simp only [Bool.and_self, if_true]
      clear hb
      by_cases hz : b = 0
      · subst hz
        simp only [if_true]
        go_enter Tryd.func34, Tryd.ntmps34
        go_wp2_with fail
        refine (hh _).mono ?_; rintro e w' ⟨rfl, rfl⟩
        go_wp2_with fail
        refine (hi _).mono ?_; rintro e w' ⟨rfl, rfl⟩
        go_wp2_with fail
        go_ret2
        exact ⟨rfl, 0, rfl⟩
      · have hz' : (b == 0) = false := by simp [hz]
        simp only [hz, if_false]
        go_enter Tryd.func34, Tryd.ntmps34
        go_wp2_with fail
        refine (hh _).mono ?_; rintro e w' ⟨rfl, rfl⟩
        go_wp2_with fail
        refine (hi _).mono ?_; rintro e w' ⟨rfl, rfl⟩
        go_wp2_with fail
        refine (rounded_any _ _ _ (by omega) (by omega) (by omega) (by omega) hz).mono ?_; rintro e w' ⟨rfl, k, rfl⟩
        go_wp2_with fail
        refine (keep_any _ _).mono ?_; rintro e w' ⟨rfl, rfl⟩
        go_wp2_with fail
        go_ret2
        exact ⟨rfl, _, rfl⟩
end Go.Proofs.YtgbpldfcahajeaaDoor
