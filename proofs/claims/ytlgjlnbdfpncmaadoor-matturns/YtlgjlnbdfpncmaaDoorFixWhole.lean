/-
  The contracts of Floor, Ceiling, Round, Truncate and FromInt of package fix and of the document's own.
-/
import Derived.Test.YtlgjlnbdfpncmaaDoorFixWalks
namespace Go.Proofs.YtlgjlnbdfpncmaaDoor
open Go.RowKit
open Fx
theorem wholeBelow_any (n : Int) (w : World) (h1 : -9223372036854775808 ≤ n) (h2 : n ≤ 9223372036854775807) :
    Calls Tryd.prog 16 #[.int .i64 n] w fun e w' => e = .returned (.int .i64 (flo n)) ∧ w = w' := by
  unfold flo
  have hb := andNot_16 n h1 h2
  go_enter Tryd.func16, Tryd.ntmps16
  go_wp2
  go_ret
  exact ⟨rfl, rfl⟩
theorem below_any (a : Int) (w : World) (h : fits a = true) :
    Calls Tryd.prog 11 #[.int .i64 a] w fun e w' => e = .returned (.int .i64 (flo a)) ∧ w = w' := by
  obtain ⟨h1, h2⟩ := (fits_iff a).1 h
  clear h
  by_cases h0 : a < 0
  · have H := Lib.hid (tmod_one a h0)
    have t1 : -65536 < a.tmod 65536 := by have := H.out; omega
    have t2 : a.tmod 65536 ≤ 0 := by have := H.out; omega
    by_cases h3 : a.tmod 65536 < 0
    all_goals
      go_enter Tryd.func11, Tryd.ntmps11
      go_wp2
      go_ret
      refine ⟨ret_int ?_, rfl⟩
      unfold flo; have := H.out; omega
  · go_enter Tryd.func11, Tryd.ntmps11
    go_wp2
    go_ret
    refine ⟨ret_int ?_, rfl⟩
    unfold flo; omega
theorem fixRound_any (a : Int) (w : World) :
    Calls Tryd.prog 9 #[.int .i64 a] w fun e w' => e = .returned (.tuple #[.int .i64 (rouV a), .int .i64 (rouE a)]) ∧ w = w' := by
  unfold rouV rouE
  cases h : fits a
  · simp only [Bool.false_eq_true, if_false]
    have hh := fun w => fixFits_no a w h
    clear h
    go_enter Tryd.func9, Tryd.ntmps9
    go_wp2_with fail
    refine (hh _).mono ?_; rintro e w' ⟨rfl, rfl⟩
    go_wp2_with fail
    go_ret2
    exact ⟨rfl, rfl⟩
  · simp only [if_true]
    have hh := fun w => fixFits_yes a w h
    obtain ⟨h1, h2⟩ := (fits_iff a).1 h
    clear h
    go_enter Tryd.func9, Tryd.ntmps9
    go_wp2_with fail
    refine (hh _).mono ?_; rintro e w' ⟨rfl, rfl⟩
    go_wp2_with fail
    refine (wholeBelow_any _ _ (by omega) (by omega)).mono ?_; rintro e w' ⟨rfl, rfl⟩
    go_wp2_with fail
    refine (outcome_any _ _).mono ?_; rintro e w' ⟨rfl, rfl⟩
    go_wp2_with fail
    go_ret2
    exact ⟨rfl, rfl⟩
end Go.Proofs.YtlgjlnbdfpncmaaDoor
