/-
  The walks of the laws of layer 1, out of the contracts of FixWalks.
-/
import Derived.Test.YtgclgifjjdpapaaFixWhole
import Derived.RowKit3
import Derived.OpenShut
namespace Go.Proofs.Ytgclgifjjdpapaa
open Go.RowKit
open Fx

theorem grown_drewN (w : World) (k : Nat) : Grown w (w.drewN k) := by
  induction k with
  | zero => exact Grown.refl _
  | succ k ih => exact Grown.drew ih
theorem answers_any (w : World) :
    Calls Try.prog 14 #[] w fun e w' => e = .returned (.bool true) ∧ ∃ k, w' = w.drewN k := by
  have hv : mulV 32768 196608 = 98304 := by decide +kernel
  have he : mulE 32768 196608 = 0 := by decide +kernel
  have hm := fun w => fixMul_any 32768 196608 w
  rw [hv, he] at hm
  clear hv he
  have H := Lib.hid hm
  clear hm
  go_enter Try.func14, Try.ntmps14
  go_wp2_with fail
  refine (H.out _).mono ?_; rintro e w' ⟨rfl, k, rfl⟩
  go_wp2_with fail
  go_ret
  exact ⟨rfl, _, rfl⟩
theorem same_refl (n e : Int) (w : World) :
    Calls Try.prog 15 #[.int .i64 n, .int .i64 e, .int .i64 n, .int .i64 e] w fun r w' => r = .returned (.bool true) ∧ w = w' := by
  go_enter Try.func15, Try.ntmps15
  go_wp2
  go_ret
  exact ⟨rfl, rfl⟩
theorem lawFixProducts (a b : Int) (_w0 : (Lit.int .i64 a).wf = true) (_w1 : (Lit.int .i64 b).wf = true) (w : World) :
    Calls Try.prog 4 #[.int .i64 a, .int .i64 b] w fun e w' => e = .returned (.bool true) ∧ ∃ k, w' = w.drewN k := by
  go_enter Try.func4, Try.ntmps4
  go_wp2_with fail
  refine (fixMul_any _ _ _).mono ?_; rintro e w' ⟨rfl, k1, rfl⟩
  go_wp2_with fail
  refine (refMul_any _ _ _).mono ?_; rintro e w' ⟨rfl, k2, rfl⟩
  go_wp2_with fail
  refine (fixDiv_any _ _ _).mono ?_; rintro e w' ⟨rfl, k3, rfl⟩
  go_wp2_with fail
  refine (refDiv_any _ _ _).mono ?_; rintro e w' ⟨rfl, k4, rfl⟩
  go_wp2_with fail
  refine (answers_any _).mono ?_; rintro e w' ⟨rfl, k5, rfl⟩
  go_wp2_with fail
  refine (same_refl _ _ _).mono ?_; rintro e w' ⟨rfl, rfl⟩
  go_wp2_with fail
  refine (same_refl _ _ _).mono ?_; rintro e w' ⟨rfl, rfl⟩
  go_wp2_with fail
  go_ret
  exact ⟨rfl, _, rfl⟩
theorem lawFixWholes (a : Int) (_w0 : (Lit.int .i64 a).wf = true) (w : World) :
    Calls Try.prog 6 #[.int .i64 a] w fun e w' => e = .returned (.bool true) ∧ ∃ k, w' = w.drewN k := by
  go_enter Try.func6, Try.ntmps6
  go_wp2_with fail
  refine (fixCeiling_any _ _).mono ?_; rintro e w' ⟨rfl, rfl⟩
  go_wp2_with fail
  refine (refCeiling_any _ _).mono ?_; rintro e w' ⟨rfl, rfl⟩
  go_wp2_with fail
  refine (fixRound_any _ _).mono ?_; rintro e w' ⟨rfl, rfl⟩
  go_wp2_with fail
  refine (refRound_any _ _).mono ?_; rintro e w' ⟨rfl, rfl⟩
  go_wp2_with fail
  refine (fixFromInt_any _ _).mono ?_; rintro e w' ⟨rfl, rfl⟩
  go_wp2_with fail
  refine (refFromInt_any _ _).mono ?_; rintro e w' ⟨rfl, rfl⟩
  go_wp2_with fail
  refine (answers_any _).mono ?_; rintro e w' ⟨rfl, k5, rfl⟩
  go_wp2_with fail
  refine (same_refl _ _ _).mono ?_; rintro e w' ⟨rfl, rfl⟩
  go_wp2_with fail
  refine (same_refl _ _ _).mono ?_; rintro e w' ⟨rfl, rfl⟩
  go_wp2_with fail
  refine (same_refl _ _ _).mono ?_; rintro e w' ⟨rfl, rfl⟩
  go_wp2_with fail
  refine (fixFloor_any _ _).mono ?_; rintro e w' ⟨rfl, rfl⟩
  go_wp2_with fail
  refine (refFloor_any _ _).mono ?_; rintro e w' ⟨rfl, rfl⟩
  go_wp2_with fail
  refine (fixTruncate_any _ _).mono ?_; rintro e w' ⟨rfl, rfl⟩
  go_wp2_with fail
  refine (refTruncate_any _ _).mono ?_; rintro e w' ⟨rfl, rfl⟩
  go_wp2_with fail
  go_ret
  exact ⟨rfl, _, rfl⟩
theorem fixMul_one (x : Int) (h : fits x = true) (w : World) :
    Calls Try.prog 19 #[.int .i64 x, .int .i64 65536] w fun e w' => e = .returned (.tuple #[.int .i64 x, .int .i64 0]) ∧ ∃ k, w' = w.drewN k := by
  have := fixMul_any x 65536 w; rwa [mulV_one h, mulE_one h] at this
theorem fixDiv_one (x : Int) (h : fits x = true) (w : World) :
    Calls Try.prog 21 #[.int .i64 x, .int .i64 65536] w fun e w' => e = .returned (.tuple #[.int .i64 x, .int .i64 0]) ∧ ∃ k, w' = w.drewN k := by
  have := fixDiv_any x 65536 w; rwa [divV_one h, divE_one h] at this
theorem fixMul_swap (x y : Int) (w : World) :
    Calls Try.prog 19 #[.int .i64 y, .int .i64 x] w fun e w' => e = .returned (.tuple #[.int .i64 (mulV x y), .int .i64 (mulE x y)]) ∧ ∃ k, w' = w.drewN k := by
  have := fixMul_any y x w; rwa [mulV_comm, mulE_comm] at this
theorem fixAdd_yes (x y : Int) (hx : fits x = true) (hy : fits y = true) (h : fits (x + y) = true) (w : World) :
    Calls Try.prog 10 #[.int .i64 x, .int .i64 y] w fun e w' => e = .returned (.tuple #[.int .i64 (x + y), .int .i64 0]) ∧ w = w' := by
  have := fixAdd_any x y w
  simp only [addV, addE, hx, hy, Bool.and_self, if_true, outV_yes h, outE_yes h] at this
  exact this
theorem fixAdd_no (x y : Int) (hx : fits x = true) (hy : fits y = true) (h : fits (x + y) = false) (w : World) :
    Calls Try.prog 10 #[.int .i64 x, .int .i64 y] w fun e w' => e = .returned (.tuple #[.int .i64 0, .int .i64 18]) ∧ w = w' := by
  have := fixAdd_any x y w
  simp only [addV, addE, hx, hy, Bool.and_self, if_true, outV_no h, outE_no h] at this
  exact this
theorem fixSub_yes (x y : Int) (hx : fits x = true) (hy : fits y = true) (h : fits (x + y) = true) (w : World) :
    Calls Try.prog 12 #[.int .i64 (x + y), .int .i64 y] w fun e w' => e = .returned (.tuple #[.int .i64 x, .int .i64 0]) ∧ w = w' := by
  have := fixSub_any (x + y) y w
  have e : x + y - y = x := by omega
  simp only [subV, subE, hy, h, e, Bool.and_self, if_true, outV_yes hx, outE_yes hx] at this
  exact this
theorem lawFixUndone (x y : Int) (w0 : (Lit.int .i32 x).wf = true) (w1 : (Lit.int .i32 y).wf = true) (w : World) :
    Calls Try.prog 9 #[.int .i32 x, .int .i32 y] w fun e w' => e = .returned (.bool true) ∧ ∃ k, w' = w.drewN k := by
  have bx := bounds_i32 w0
  have by' := bounds_i32 w1
  have hx : fits x = true := (fits_iff x).2 bx
  have hy : fits y = true := (fits_iff y).2 by'
  obtain ⟨bx1, bx2⟩ := bx
  obtain ⟨by1, by2⟩ := by'
  clear w0 w1
  have m1 := Lib.hid (fixMul_one x hx)
  have d1 := Lib.hid (fixDiv_one x hx)
  cases hs : fits (x + y)
  · have a1 := Lib.hid (fixAdd_no x y hx hy hs)
    have a2 := Lib.hid (fixAdd_no y x hy hx (by rw [Int.add_comm]; exact hs))
    clear hx hy hs
    go_enter Try.func9, Try.ntmps9
    go_wp2_with fail
    refine (a1.out _).mono ?_; rintro e w' ⟨rfl, rfl⟩
    go_wp2_with fail
    refine (m1.out _).mono ?_; rintro e w' ⟨rfl, k1, rfl⟩
    go_wp2_with fail
    refine (d1.out _).mono ?_; rintro e w' ⟨rfl, k2, rfl⟩
    go_wp2_with fail
    refine (a2.out _).mono ?_; rintro e w' ⟨rfl, rfl⟩
    go_wp2_with fail
    refine (fixMul_any _ _ _).mono ?_; rintro e w' ⟨rfl, k3, rfl⟩
    go_wp2_with fail
    refine (fixMul_swap x y _).mono ?_; rintro e w' ⟨rfl, k4, rfl⟩
    go_wp2_with fail
    refine (answers_any _).mono ?_; rintro e w' ⟨rfl, k5, rfl⟩
    go_wp2_with fail
    go_ret
    exact ⟨rfl, _, rfl⟩
  · have a1 := Lib.hid (fixAdd_yes x y hx hy hs)
    have a2 : ∀ w, Calls Try.prog 10 #[.int .i64 y, .int .i64 x] w fun e w' => e = .returned (.tuple #[.int .i64 (x + y), .int .i64 0]) ∧ w = w' := by
      intro w; have := fixAdd_yes y x hy hx (by rw [Int.add_comm]; exact hs) w; rwa [Int.add_comm y x] at this
    have a2 := Lib.hid a2
    have s1 := Lib.hid (fixSub_yes x y hx hy hs)
    clear hx hy hs
    go_enter Try.func9, Try.ntmps9
    go_wp2_with fail
    refine (a1.out _).mono ?_; rintro e w' ⟨rfl, rfl⟩
    go_wp2_with fail
    refine (s1.out _).mono ?_; rintro e w' ⟨rfl, rfl⟩
    go_wp2_with fail
    refine (m1.out _).mono ?_; rintro e w' ⟨rfl, k1, rfl⟩
    go_wp2_with fail
    refine (d1.out _).mono ?_; rintro e w' ⟨rfl, k2, rfl⟩
    go_wp2_with fail
    refine (a2.out _).mono ?_; rintro e w' ⟨rfl, rfl⟩
    go_wp2_with fail
    refine (fixMul_any _ _ _).mono ?_; rintro e w' ⟨rfl, k3, rfl⟩
    go_wp2_with fail
    refine (fixMul_swap x y _).mono ?_; rintro e w' ⟨rfl, k4, rfl⟩
    go_wp2_with fail
    refine (answers_any _).mono ?_; rintro e w' ⟨rfl, k5, rfl⟩
    go_wp2_with fail
    go_ret
    exact ⟨rfl, _, rfl⟩
end Go.Proofs.Ytgclgifjjdpapaa
