/-
  The walks of the laws of layer 1, out of the contracts of FixWalks.
-/
import Derived.Test.YtgclgifjjdpapaaFixWalks
import Derived.RowKit3
namespace Go.Proofs.Ytgclgifjjdpapaa
open Go.RowKit
open Fx

theorem grown_drewN (w : World) (k : Nat) : Grown w (w.drewN k) := by
  induction k with
  | zero => exact Grown.refl _
  | succ k ih => exact Grown.drew ih
theorem answers_any (w : World) :
    Calls Try.prog 14 #[] w fun e w' => e = .returned (.bool true) ∧ ∃ k, w' = w.drewN k := by
  have hv : mulV 32768 196608 = 98304 := by decide +kernel
  have he : mulE 32768 196608 = 0 := by decide +kernel
  have hm := fun w => fixMul_any 32768 196608 w
  rw [hv, he] at hm
  clear hv he
  have H := Lib.hid hm
  clear hm
  go_enter Try.func14, Try.ntmps14
  go_wp2_with fail
  refine (H.out _).mono ?_; rintro e w' ⟨rfl, k, rfl⟩
  go_wp2_with fail
  go_ret
  exact ⟨rfl, _, rfl⟩
theorem same_refl (n e : Int) (w : World) :
    Calls Try.prog 15 #[.int .i64 n, .int .i64 e, .int .i64 n, .int .i64 e] w fun r w' => r = .returned (.bool true) ∧ w = w' := by
  go_enter Try.func15, Try.ntmps15
  go_wp2
  go_ret
  exact ⟨rfl, rfl⟩
theorem lawFixProducts (a b : Int) (_w0 : (Lit.int .i64 a).wf = true) (_w1 : (Lit.int .i64 b).wf = true) (w : World) :
    Calls Try.prog 4 #[.int .i64 a, .int .i64 b] w fun e w' => e = .returned (.bool true) ∧ ∃ k, w' = w.drewN k := by
  go_enter Try.func4, Try.ntmps4
  go_wp2_with fail
  refine (fixMul_any _ _ _).mono ?_; rintro e w' ⟨rfl, k1, rfl⟩
  go_wp2_with fail
  refine (refMul_any _ _ _).mono ?_; rintro e w' ⟨rfl, k2, rfl⟩
  go_wp2_with fail
  refine (fixDiv_any _ _ _).mono ?_; rintro e w' ⟨rfl, k3, rfl⟩
  go_wp2_with fail
  refine (refDiv_any _ _ _).mono ?_; rintro e w' ⟨rfl, k4, rfl⟩
  go_wp2_with fail
  refine (answers_any _).mono ?_; rintro e w' ⟨rfl, k5, rfl⟩
  go_wp2_with fail
  refine (same_refl _ _ _).mono ?_; rintro e w' ⟨rfl, rfl⟩
  go_wp2_with fail
  refine (same_refl _ _ _).mono ?_; rintro e w' ⟨rfl, rfl⟩
  go_wp2_with fail
  go_ret
  exact ⟨rfl, _, rfl⟩
end Go.Proofs.Ytgclgifjjdpapaa
