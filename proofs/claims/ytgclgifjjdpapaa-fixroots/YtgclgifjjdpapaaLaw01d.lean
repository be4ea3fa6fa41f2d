/-
  The walk of the law FixRoots.
-/
import Derived.Test.YtgclgifjjdpapaaLaw01b
import Derived.Test.YtgclgifjjdpapaaFixRoot
namespace Go.Proofs.Ytgclgifjjdpapaa
open Go.RowKit
open Fx
set_option maxHeartbeats 400000 in
theorem lawFixRoots (a : Int) (_w0 : (Lit.int .i64 a).wf = true) (w : World) :
    Calls Try.prog 8 #[.int .i64 a] w fun e w' => e = .returned (.bool true) ∧ ∃ k, w' = w.drewN k := by
  clear _w0
  cases hf : fits a
  · have h1 := Lib.hid (fun w => fixSqrt_no a w (Or.inl hf))
    have h2 := Lib.hid (fun w => refSqrt_no a w (Or.inl hf))
    have h3 := Lib.hid (fun w => refFits_no a w hf)
    clear hf
    go_enter Try.func8, Try.ntmps8
    go_wp2_with fail
    refine (h1.out _).mono ?_; rintro e w' ⟨rfl, rfl⟩
    go_wp2_with fail
    refine (h2.out _).mono ?_; rintro e w' ⟨rfl, rfl⟩
    go_wp2_with fail
    refine (answers_any _).mono ?_; rintro e w' ⟨rfl, k1, rfl⟩
    go_wp2_with fail
    refine (same_refl _ _ _).mono ?_; rintro e w' ⟨rfl, rfl⟩
    go_wp2_with fail
    refine (h3.out _).mono ?_; rintro e w' ⟨rfl, rfl⟩
    go_wp2_with fail
    go_ret
    exact ⟨rfl, _, rfl⟩
  by_cases h0 : a < 0
  · have h1 := Lib.hid (fun w => fixSqrt_no a w (Or.inr h0))
    have h2 := Lib.hid (fun w => refSqrt_no a w (Or.inr h0))
    have h3 := Lib.hid (fun w => refFits_yes a w hf)
    clear hf
    go_enter Try.func8, Try.ntmps8
    go_wp2_with fail
    refine (h1.out _).mono ?_; rintro e w' ⟨rfl, rfl⟩
    go_wp2_with fail
    refine (h2.out _).mono ?_; rintro e w' ⟨rfl, rfl⟩
    go_wp2_with fail
    refine (answers_any _).mono ?_; rintro e w' ⟨rfl, k1, rfl⟩
    go_wp2_with fail
    refine (same_refl _ _ _).mono ?_; rintro e w' ⟨rfl, rfl⟩
    go_wp2_with fail
    refine (h3.out _).mono ?_; rintro e w' ⟨rfl, rfl⟩
    go_wp2_with fail
    go_ret
    exact ⟨by simp, _, rfl⟩
  obtain ⟨a1, a2⟩ := (fits_iff a).1 hf
  obtain ⟨r, r0, r1, r2⟩ := root_exists (a * 65536).toNat
  rw [Int.toNat_of_nonneg (by omega)] at r1 r2
  have h1 := Lib.hid (fun w => fixSqrt_yes a r w hf (by omega) r0 r1 r2)
  have h2 := Lib.hid (fun w => refSqrt_yes a r w hf (by omega) r0 r1 r2)
  obtain ⟨s1, s2, s3, s4⟩ := rootOf_bd (a * 65536) r r0 r1 r2
  have r3 : r < 16777216 := sq_lt _ _ (by omega) (by omega)
  clear r1 r2 hf
  generalize rootOf (a * 65536) r = s at *
  have b1 := sq_mono 0 (2 * s + 1) (by omega) (by omega)
  have b2 := sq_mono (2 * s + 1) 67108864 (by omega) (by omega)
  rw [show 4 * (a * 65536) = 4 * a * 65536 from by omega] at s3 s4
  by_cases hz : s = 0
  · subst hz
    clear s3 b1 b2
    go_enter Try.func8, Try.ntmps8
    go_wp2_with fail
    refine (h1.out _).mono ?_; rintro e w' ⟨rfl, rfl⟩
    go_wp2_with fail
    refine (h2.out _).mono ?_; rintro e w' ⟨rfl, rfl⟩
    go_wp2_with fail
    refine (answers_any _).mono ?_; rintro e w' ⟨rfl, k1, rfl⟩
    go_wp2_with fail
    refine (same_refl _ _ _).mono ?_; rintro e w' ⟨rfl, rfl⟩
    go_wp2_with fail
    go_ret
    exact ⟨by simp; omega, _, rfl⟩
  · have s3 := s3.resolve_left hz
    have b3 := sq_mono 0 (2 * s - 1) (by omega) (by omega)
    have hz' : (s == 0) = false := by simp [hz]
    go_enter Try.func8, Try.ntmps8
    go_wp2_with fail
    refine (h1.out _).mono ?_; rintro e w' ⟨rfl, rfl⟩
    go_wp2_with fail
    refine (h2.out _).mono ?_; rintro e w' ⟨rfl, rfl⟩
    go_wp2_with fail
    refine (answers_any _).mono ?_; rintro e w' ⟨rfl, k1, rfl⟩
    go_wp2_with fail
    refine (same_refl _ _ _).mono ?_; rintro e w' ⟨rfl, rfl⟩
    go_wp2_with fail
    go_ret
    exact ⟨by simp, _, rfl⟩
end Go.Proofs.Ytgclgifjjdpapaa
