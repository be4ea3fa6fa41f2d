/-
  The contracts of Floor, Ceiling, Round, Truncate and FromInt of package fix and of the document's own.
-/
import Derived.Test.YtfilbfenpdaahaaGreatDoorFixWalks
namespace Go.Proofs.YtfilbfenpdaahaaGreatDoor
open Go.RowKit
open Fx
theorem fixTruncate_any (a : Int) (w : World) :
    Calls Tryz.prog 53 #[.int .i64 a] w fun e w' => e = .returned (.int .i64 (truV a)) ∧ w = w' := by
  unfold truV
  cases h : fits a
  · rw [if_neg (by simp)]
    have hh := fun w => fixFits_no a w h
    clear h
    go_enter Tryz.func53, Tryz.ntmps53
    go_wp2_with fail
    refine (hh _).mono ?_; rintro e w' ⟨rfl, rfl⟩
    go_wp2_with fail
    go_ret
    exact ⟨rfl, rfl⟩
  · rw [if_pos rfl]
    have hh := fun w => fixFits_yes a w h
    obtain ⟨t1, t2⟩ := tdiv_one_bd a h
    clear h
    by_cases h0 : a < 0
    · go_enter Tryz.func53, Tryz.ntmps53
      go_wp2_with fail
      refine (hh _).mono ?_; rintro e w' ⟨rfl, rfl⟩
      go_wp2_with fail
      go_ret
      exact ⟨rfl, rfl⟩
    · have T := Lib.hid (Int.tdiv_eq_ediv_of_nonneg (a := a) (b := 65536) (by omega))
      rw [T.out] at t1 t2
      go_enter Tryz.func53, Tryz.ntmps53
      go_wp2_with fail
      refine (hh _).mono ?_; rintro e w' ⟨rfl, rfl⟩
      go_wp2_with fail
      go_ret
      exact ⟨by rw [T.out]; rfl, rfl⟩
theorem fixFromInt_any (n : Int) (w : World) :
    Calls Tryz.prog 54 #[.int .i64 n] w fun e w' => e = .returned (.tuple #[.int .i64 (frV n), .int .i64 (frE n)]) ∧ w = w' := by
  unfold frV frE
  by_cases h1 : -32768 ≤ n
  · by_cases h2 : n ≤ 32767
    · simp only [h1, h2, decide_true, Bool.and_self, if_true]
      go_enter Tryz.func54, Tryz.ntmps54
      go_wp2
      go_ret2
      exact ⟨rfl, rfl⟩
    · simp only [h1, h2, decide_true, decide_false, Bool.and_false, Bool.false_eq_true, if_false]
      go_enter Tryz.func54, Tryz.ntmps54
      go_wp2
      go_ret2
      exact ⟨rfl, rfl⟩
  · simp only [h1, decide_false, Bool.false_and, Bool.false_eq_true, if_false]
    go_enter Tryz.func54, Tryz.ntmps54
    go_wp2
    go_ret2
    exact ⟨rfl, rfl⟩
end Go.Proofs.YtfilbfenpdaahaaGreatDoor
