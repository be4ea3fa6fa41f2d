/-
  The document's own integers: idiv, mod, bitshift.
-/
import Derived.Test.YtgbpldfcahajeaaDoorAriRf
import Derived.Test.YtgbpldfcahajeaaDoorAriBitM
namespace Go.Proofs.YtgbpldfcahajeaaDoor
open Go.RowKit
open Fx
namespace Ari
set_option maxHeartbeats 1000000 in
set_option maxRecDepth 100000 in
theorem refInts_nul (nm : ByteArray) (hnm : nm = ⟨#[105, 100, 105, 118]⟩ ∨ nm = ⟨#[109, 111, 100]⟩) (a : Int) (w : World) : Calls Tryd.prog 26 #[.string nm, .int .i64 a, .int .i64 0] w fun e w' => RefO w (noO 18) e w' := by
  rcases hnm with rfl | rfl
  all_goals
    go_enter Tryd.func26, Tryd.ntmps26
    go_wp2_with fail
    go_ret2
    exact RefO.err (by decide) (Below.refl _ _)
set_option maxHeartbeats 1000000 in
set_option maxRecDepth 100000 in
theorem refInts_mod (a b : Int) (ha : fits a = true) (hb : fits b = true) (h0 : b ≠ 0) (w : World) : Calls Tryd.prog 26 #[.string ⟨#[109, 111, 100]⟩, .int .i64 a, .int .i64 b] w fun e w' => ∃ bq, w.heap.size ≤ bq ∧ e = .returned (.tuple #[.slice (some ⟨bq, 0, none⟩) 1 1, .int .i64 0]) ∧ RefO w (okO 1 (a.tmod b)) (.returned (.tuple #[.slice (some ⟨bq, 0, none⟩) 1 1, .int .i64 0])) w' := by
  obtain ⟨a1, a2⟩ := (fits_iff a).1 ha
  obtain ⟨b1, b2⟩ := (fits_iff b).1 hb
  have hb0 : (b == 0) = false := by simpa using h0
  have q := tdiv_bd a b 2147483648 (by omega) (by omega)
  have r := tmod_bd a b h0 2147483648 (by omega) (by omega)
  have e := Int.mul_tdiv_add_tmod a b
  rw [Int.mul_comm] at e
  have e2 : a - a.tdiv b * b = a.tmod b := by omega
  have HE := Lib.hid e2
  have HW := Lib.hid (fun W => refWhole_at (a - a.tdiv b * b) W)
  have HO := Lib.hid (fun W => refOne_at 1 (a - a.tdiv b * b) W)
  unfold mk Ob.vl at HW HO
  clear e2 ha hb
  go_enter Tryd.func26, Tryd.ntmps26
  go_wp2_with fail
  refine (HW.out _).mono ?_; rintro e w1 ⟨rfl, hb1⟩
  have HB1 := Lib.hid hb1
  clear hb1
  go_wp2_with fail
  refine (HO.out _).mono ?_; rintro e w2 ⟨bq, hbq, rfl, hro⟩
  have HRO := Lib.hid (hro.after HB1.out)
  have HQ := Lib.hid (Nat.le_trans HB1.out.size hbq)
  clear hro hbq
  go_wp2_with fail
  go_ret2
  exact ⟨bq, HQ.out, rfl, by rw [← HE.out]; exact HRO.out⟩
set_option maxHeartbeats 1000000 in
set_option maxRecDepth 100000 in
theorem refInts_idiv (a b : Int) (ha : fits a = true) (hb : fits b = true) (h0 : b ≠ 0) (hf : fits (a.tdiv b) = true) (w : World) : Calls Tryd.prog 26 #[.string ⟨#[105, 100, 105, 118]⟩, .int .i64 a, .int .i64 b] w fun e w' => ∃ bq, w.heap.size ≤ bq ∧ e = .returned (.tuple #[.slice (some ⟨bq, 0, none⟩) 1 1, .int .i64 0]) ∧ RefO w (okO 1 (a.tdiv b)) (.returned (.tuple #[.slice (some ⟨bq, 0, none⟩) 1 1, .int .i64 0])) w' := by
  obtain ⟨a1, a2⟩ := (fits_iff a).1 ha
  obtain ⟨b1, b2⟩ := (fits_iff b).1 hb
  have hb0 : (b == 0) = false := by simpa using h0
  have q := tdiv_bd a b 2147483648 (by omega) (by omega)
  have r := tmod_bd a b h0 2147483648 (by omega) (by omega)
  have e := Int.mul_tdiv_add_tmod a b
  rw [Int.mul_comm] at e
  have hS := fun W => refSmall_at (a.tdiv b) W
  rw [hf] at hS
  have HS := Lib.hid hS
  have HW := Lib.hid (fun W => refWhole_at (a.tdiv b) W)
  have HO := Lib.hid (fun W => refOne_at 1 (a.tdiv b) W)
  unfold mk Ob.vl at HW HO
  clear ha hb hf hS
  go_enter Tryd.func26, Tryd.ntmps26
  go_wp2_with fail
  refine (HS.out _).mono ?_; rintro e w' ⟨rfl, rfl⟩
  go_wp2_with fail
  refine (HW.out _).mono ?_; rintro e w1 ⟨rfl, hb1⟩
  have HB1 := Lib.hid hb1
  clear hb1
  go_wp2_with fail
  refine (HO.out _).mono ?_; rintro e w2 ⟨bq, hbq, rfl, hro⟩
  have HRO := Lib.hid (hro.after HB1.out)
  have HQ := Lib.hid (Nat.le_trans HB1.out.size hbq)
  clear hro hbq
  go_wp2_with fail
  go_ret2
  exact ⟨bq, HQ.out, rfl, HRO.out⟩
set_option maxHeartbeats 1000000 in
set_option maxRecDepth 100000 in
theorem refInts_idiv_no (a b : Int) (ha : fits a = true) (hb : fits b = true) (h0 : b ≠ 0) (hf : fits (a.tdiv b) = false) (w : World) : Calls Tryd.prog 26 #[.string ⟨#[105, 100, 105, 118]⟩, .int .i64 a, .int .i64 b] w fun e w' => RefO w (noO 18) e w' := by
  obtain ⟨a1, a2⟩ := (fits_iff a).1 ha
  obtain ⟨b1, b2⟩ := (fits_iff b).1 hb
  have hb0 : (b == 0) = false := by simpa using h0
  have q := tdiv_bd a b 2147483648 (by omega) (by omega)
  have r := tmod_bd a b h0 2147483648 (by omega) (by omega)
  have e := Int.mul_tdiv_add_tmod a b
  rw [Int.mul_comm] at e
  have hS := fun W => refSmall_at (a.tdiv b) W
  rw [hf] at hS
  have HS := Lib.hid hS
  clear ha hb hf hS
  go_enter Tryd.func26, Tryd.ntmps26
  go_wp2_with fail
  refine (HS.out _).mono ?_; rintro e w' ⟨rfl, rfl⟩
  go_wp2_with fail
  go_ret2
  exact RefO.err (by decide) (Below.refl _ _)
theorem far_shift {a b : Int} (h : 31 < b ∨ b < -31) : shiV a b = 0 := by
  unfold shiV
  rcases h with h | h
  · rw [if_neg (by omega), show min b.toNat 32 = 32 by omega]
    have : (2 : Int) ^ 32 = 4294967296 := by decide
    rw [this, Int.mul_emod_left]; unfold wrap32; omega
  · rw [if_pos (by omega), show min (-b).toNat 32 = 32 by omega]
    have : (2 : Int) ^ 32 = 4294967296 := by decide
    rw [this, Int.ediv_eq_zero_of_lt (by omega) (by omega)]; unfold wrap32; omega
set_option maxHeartbeats 1000000 in
set_option maxRecDepth 100000 in
theorem refInts_far (a b : Int) (a1 : -2147483648 ≤ a) (a2 : a ≤ 2147483647) (h : 31 < b ∨ b < -31) (w : World) : Calls Tryd.prog 26 #[.string ⟨#[98, 105, 116, 115, 104, 105, 102, 116]⟩, .int .i64 a, .int .i64 b] w fun e w' => ∃ bq, w.heap.size ≤ bq ∧ e = .returned (.tuple #[.slice (some ⟨bq, 0, none⟩) 1 1, .int .i64 0]) ∧ RefO w (okO 1 (0)) (.returned (.tuple #[.slice (some ⟨bq, 0, none⟩) 1 1, .int .i64 0])) w' := by
  have HW := Lib.hid (fun W => refWhole_at 0 W)
  have HO := Lib.hid (fun W => refOne_at 1 0 W)
  unfold mk Ob.vl at HW HO
  by_cases hneg : a < 0 <;> rcases h with h | h
  all_goals
    go_enter Tryd.func26, Tryd.ntmps26
    go_wp2_with fail
    refine (HW.out _).mono ?_; rintro e w1 ⟨rfl, hb1⟩
    have HB1 := Lib.hid hb1
    clear hb1
    go_wp2_with fail
    refine (HO.out _).mono ?_; rintro e w2 ⟨bq, hbq, rfl, hro⟩
    have HRO := Lib.hid (hro.after HB1.out)
    have HQ := Lib.hid (Nat.le_trans HB1.out.size hbq)
    clear hro hbq
    go_wp2_with fail
    go_ret2
    exact ⟨bq, HQ.out, rfl, HRO.out⟩
theorem dbl_step {x u : Int} {j : Nat} (h : u * 2 ^ j % 4294967296 = x) : x * 2 % 4294967296 = u * 2 ^ (j + 1) % 4294967296 := by
  rw [Int.pow_succ, ← Int.mul_assoc]
  generalize u * 2 ^ j = z at *
  omega
theorem hlf_step {x u : Int} {j : Nat} (h : u / 2 ^ j = x) : x / 2 = u / 2 ^ (j + 1) := by
  rw [Int.pow_succ, ← Int.ediv_ediv_of_nonneg (Int.le_of_lt (Int.pow_pos (by decide))), h]
set_option maxHeartbeats 1000000 in
set_option maxRecDepth 100000 in
theorem refInts_shl_neg (a : Int) (J : Nat) (hs : a < 0) (a1 : -2147483648 ≤ a) (hJ : J ≤ 31) (w : World) : Calls Tryd.prog 26 #[.string ⟨#[98, 105, 116, 115, 104, 105, 102, 116]⟩, .int .i64 a, .int .i64 (J : Int)] w fun e w' => ∃ bq, w.heap.size ≤ bq ∧ e = .returned (.tuple #[.slice (some ⟨bq, 0, none⟩) 1 1, .int .i64 0]) ∧ RefO w (okO 1 (wrap32 ((a + 4294967296) * 2 ^ J % 4294967296))) (.returned (.tuple #[.slice (some ⟨bq, 0, none⟩) 1 1, .int .i64 0])) w' := by
  have hJ1 : decide (31 < (J : Int)) = false := decide_eq_false (by omega)
  have hJ2 : decide ((J : Int) < -31) = false := decide_eq_false (by omega)
  go_enter Tryd.func26, Tryd.ntmps26
  go_wp2_with fail
  go_loop [1, 2] (fun x s => ∃ k : Nat, k ≤ J ∧ x = .int .i64 ((a + 4294967296) * 2 ^ (J - k) % 4294967296) ∧ s = .int .i64 (k : Int)) (fun _ s => (intOf s).toNat)
  case atStart => exact ⟨J, Nat.le_refl _, by rw [Nat.sub_self, Int.pow_zero, Int.mul_one, Int.emod_eq_of_lt (by omega) (by omega)], rfl⟩
  case round =>
    obtain ⟨k, hk, rfl, rfl⟩ := hrel
    cases k with
    | zero =>
      obtain ⟨X, hX⟩ : ∃ X, (a + 4294967296) * 2 ^ J % 4294967296 = X := ⟨_, rfl⟩
      have HF := Lib.hid hX
      have hx0 : 0 ≤ X := by omega
      have hx1 : X < 4294967296 := by omega
      rw [Nat.sub_zero, hX, show ((0 : Nat) : Int) = 0 from rfl]
      clear hX
      go_wp2_with fail
      go_loop [1, 2] (fun x s => x = .int .i64 X ∧ s = .int .i64 0) (fun _ _ => 0)
      case atStart => exact ⟨rfl, rfl⟩
      case round =>
        obtain ⟨rfl, rfl⟩ := hrel
        by_cases hbig : 2147483648 ≤ X
        · have HV := Lib.hid (show wrap32 X = X - 4294967296 by unfold wrap32; omega)
          have HW := Lib.hid (fun W => refWhole_at (X - 4294967296) W)
          have HO := Lib.hid (fun W => refOne_at 1 (X - 4294967296) W)
          unfold mk Ob.vl at HW HO
          go_wp2_with fail
          refine (HW.out _).mono ?_; rintro e w1 ⟨rfl, hb1⟩
          have HB1 := Lib.hid hb1
          clear hb1
          go_wp2_with fail
          refine (HO.out _).mono ?_; rintro e w2 ⟨bq, hbq, rfl, hro⟩
          have HRO := Lib.hid (hro.after HB1.out)
          have HQ := Lib.hid (Nat.le_trans HB1.out.size hbq)
          clear hro hbq
          go_wp2_with fail
          go_ret2
          exact ⟨bq, HQ.out, rfl, by rw [HF.out, HV.out]; exact HRO.out⟩
        · have HV := Lib.hid (show wrap32 X = X by unfold wrap32; omega)
          have HW := Lib.hid (fun W => refWhole_at X W)
          have HO := Lib.hid (fun W => refOne_at 1 X W)
          unfold mk Ob.vl at HW HO
          go_wp2_with fail
          refine (HW.out _).mono ?_; rintro e w1 ⟨rfl, hb1⟩
          have HB1 := Lib.hid hb1
          clear hb1
          go_wp2_with fail
          refine (HO.out _).mono ?_; rintro e w2 ⟨bq, hbq, rfl, hro⟩
          have HRO := Lib.hid (hro.after HB1.out)
          have HQ := Lib.hid (Nat.le_trans HB1.out.size hbq)
          clear hro hbq
          go_wp2_with fail
          go_ret2
          exact ⟨bq, HQ.out, rfl, by rw [HF.out, HV.out]; exact HRO.out⟩
    | succ m =>
      obtain ⟨X, hX⟩ : ∃ X, (a + 4294967296) * 2 ^ (J - (m + 1)) % 4294967296 = X := ⟨_, rfl⟩
      have HS := Lib.hid (dbl_step hX)
      have hx0 : 0 ≤ X := by omega
      have hx1 : X < 4294967296 := by omega
      rw [hX]
      clear hX
      go_wp2_with fail
      refine ⟨⟨m, by omega, by rw [HS.out, show J - (m + 1) + 1 = J - m by omega], by simp <;> omega⟩, ?_⟩
      simp [intOf] <;> omega
set_option maxHeartbeats 1000000 in
set_option maxRecDepth 100000 in
theorem refInts_shr_neg (a : Int) (J : Nat) (hs : a < 0) (a1 : -2147483648 ≤ a) (hJ : J ≤ 31) (hJ0 : 0 < J) (w : World) : Calls Tryd.prog 26 #[.string ⟨#[98, 105, 116, 115, 104, 105, 102, 116]⟩, .int .i64 a, .int .i64 (-(J : Int))] w fun e w' => ∃ bq, w.heap.size ≤ bq ∧ e = .returned (.tuple #[.slice (some ⟨bq, 0, none⟩) 1 1, .int .i64 0]) ∧ RefO w (okO 1 (wrap32 ((a + 4294967296) / 2 ^ J))) (.returned (.tuple #[.slice (some ⟨bq, 0, none⟩) 1 1, .int .i64 0])) w' := by
  have hJ1 : decide (31 < -(J : Int)) = false := decide_eq_false (by omega)
  have hJ2 : decide (-(J : Int) < -31) = false := decide_eq_false (by omega)
  go_enter Tryd.func26, Tryd.ntmps26
  go_wp2_with fail
  go_loop [1, 2] (fun x s => x = .int .i64 (a + 4294967296) ∧ s = .int .i64 (-(J : Int))) (fun _ _ => 0)
  case atStart => exact ⟨rfl, rfl⟩
  case round =>
    obtain ⟨rfl, rfl⟩ := hrel
    go_wp2_with fail
    go_loop [1, 2] (fun x s => ∃ k : Nat, k ≤ J ∧ x = .int .i64 ((a + 4294967296) / 2 ^ (J - k)) ∧ s = .int .i64 (-(k : Int))) (fun _ s => (-(intOf s)).toNat)
    case atStart => exact ⟨J, Nat.le_refl _, by rw [Nat.sub_self, Int.pow_zero, Int.ediv_one], rfl⟩
    case round =>
      obtain ⟨k, hk, rfl, rfl⟩ := hrel
      have hb : ∀ j : Nat, 0 ≤ (a + 4294967296) / 2 ^ j ∧ (a + 4294967296) / 2 ^ j < 4294967296 := fun j => ⟨Int.ediv_nonneg (by omega) (Int.le_of_lt (Int.pow_pos (by decide))), Int.lt_of_le_of_lt (Int.ediv_le_self _ (by omega)) (by omega)⟩
      cases k with
      | zero =>
        obtain ⟨X, hX⟩ : ∃ X, (a + 4294967296) / 2 ^ J = X := ⟨_, rfl⟩
        have HF := Lib.hid hX
        obtain ⟨hx0, hx1⟩ := hb J
        rw [hX] at hx0 hx1
        rw [Nat.sub_zero, hX, show -((0 : Nat) : Int) = 0 from rfl]
        clear hX hb
        by_cases hbig : 2147483648 ≤ X
        · have HV := Lib.hid (show wrap32 X = X - 4294967296 by unfold wrap32; omega)
          have HW := Lib.hid (fun W => refWhole_at (X - 4294967296) W)
          have HO := Lib.hid (fun W => refOne_at 1 (X - 4294967296) W)
          unfold mk Ob.vl at HW HO
          go_wp2_with fail
          refine (HW.out _).mono ?_; rintro e w1 ⟨rfl, hb1⟩
          have HB1 := Lib.hid hb1
          clear hb1
          go_wp2_with fail
          refine (HO.out _).mono ?_; rintro e w2 ⟨bq, hbq, rfl, hro⟩
          have HRO := Lib.hid (hro.after HB1.out)
          have HQ := Lib.hid (Nat.le_trans HB1.out.size hbq)
          clear hro hbq
          go_wp2_with fail
          go_ret2
          exact ⟨bq, HQ.out, rfl, by rw [HF.out, HV.out]; exact HRO.out⟩
        · have HV := Lib.hid (show wrap32 X = X by unfold wrap32; omega)
          have HW := Lib.hid (fun W => refWhole_at X W)
          have HO := Lib.hid (fun W => refOne_at 1 X W)
          unfold mk Ob.vl at HW HO
          go_wp2_with fail
          refine (HW.out _).mono ?_; rintro e w1 ⟨rfl, hb1⟩
          have HB1 := Lib.hid hb1
          clear hb1
          go_wp2_with fail
          refine (HO.out _).mono ?_; rintro e w2 ⟨bq, hbq, rfl, hro⟩
          have HRO := Lib.hid (hro.after HB1.out)
          have HQ := Lib.hid (Nat.le_trans HB1.out.size hbq)
          clear hro hbq
          go_wp2_with fail
          go_ret2
          exact ⟨bq, HQ.out, rfl, by rw [HF.out, HV.out]; exact HRO.out⟩
      | succ m =>
        obtain ⟨X, hX⟩ : ∃ X, (a + 4294967296) / 2 ^ (J - (m + 1)) = X := ⟨_, rfl⟩
        have HS := Lib.hid (hlf_step hX)
        obtain ⟨hx0, hx1⟩ := hb (J - (m + 1))
        rw [hX] at hx0 hx1
        rw [hX]
        clear hX hb
        go_wp2_with fail
        refine ⟨⟨m, by omega, by rw [HS.out, show J - (m + 1) + 1 = J - m by omega], by simp <;> omega⟩, ?_⟩
        simp [intOf] <;> omega
set_option maxHeartbeats 1000000 in
set_option maxRecDepth 100000 in
theorem refInts_shl_pos (a : Int) (J : Nat) (hs : 0 ≤ a) (a2 : a ≤ 2147483647) (hJ : J ≤ 31) (w : World) : Calls Tryd.prog 26 #[.string ⟨#[98, 105, 116, 115, 104, 105, 102, 116]⟩, .int .i64 a, .int .i64 (J : Int)] w fun e w' => ∃ bq, w.heap.size ≤ bq ∧ e = .returned (.tuple #[.slice (some ⟨bq, 0, none⟩) 1 1, .int .i64 0]) ∧ RefO w (okO 1 (wrap32 (a * 2 ^ J % 4294967296))) (.returned (.tuple #[.slice (some ⟨bq, 0, none⟩) 1 1, .int .i64 0])) w' := by
  have hJ1 : decide (31 < (J : Int)) = false := decide_eq_false (by omega)
  have hJ2 : decide ((J : Int) < -31) = false := decide_eq_false (by omega)
  go_enter Tryd.func26, Tryd.ntmps26
  go_wp2_with fail
  go_loop [1, 2] (fun x s => ∃ k : Nat, k ≤ J ∧ x = .int .i64 (a * 2 ^ (J - k) % 4294967296) ∧ s = .int .i64 (k : Int)) (fun _ s => (intOf s).toNat)
  case atStart => exact ⟨J, Nat.le_refl _, by rw [Nat.sub_self, Int.pow_zero, Int.mul_one, Int.emod_eq_of_lt (by omega) (by omega)], rfl⟩
  case round =>
    obtain ⟨k, hk, rfl, rfl⟩ := hrel
    cases k with
    | zero =>
      obtain ⟨X, hX⟩ : ∃ X, a * 2 ^ J % 4294967296 = X := ⟨_, rfl⟩
      have HF := Lib.hid hX
      have hx0 : 0 ≤ X := by omega
      have hx1 : X < 4294967296 := by omega
      rw [Nat.sub_zero, hX, show ((0 : Nat) : Int) = 0 from rfl]
      clear hX
      go_wp2_with fail
      go_loop [1, 2] (fun x s => x = .int .i64 X ∧ s = .int .i64 0) (fun _ _ => 0)
      case atStart => exact ⟨rfl, rfl⟩
      case round =>
        obtain ⟨rfl, rfl⟩ := hrel
        by_cases hbig : 2147483648 ≤ X
        · have HV := Lib.hid (show wrap32 X = X - 4294967296 by unfold wrap32; omega)
          have HW := Lib.hid (fun W => refWhole_at (X - 4294967296) W)
          have HO := Lib.hid (fun W => refOne_at 1 (X - 4294967296) W)
          unfold mk Ob.vl at HW HO
          go_wp2_with fail
          refine (HW.out _).mono ?_; rintro e w1 ⟨rfl, hb1⟩
          have HB1 := Lib.hid hb1
          clear hb1
          go_wp2_with fail
          refine (HO.out _).mono ?_; rintro e w2 ⟨bq, hbq, rfl, hro⟩
          have HRO := Lib.hid (hro.after HB1.out)
          have HQ := Lib.hid (Nat.le_trans HB1.out.size hbq)
          clear hro hbq
          go_wp2_with fail
          go_ret2
          exact ⟨bq, HQ.out, rfl, by rw [HF.out, HV.out]; exact HRO.out⟩
        · have HV := Lib.hid (show wrap32 X = X by unfold wrap32; omega)
          have HW := Lib.hid (fun W => refWhole_at X W)
          have HO := Lib.hid (fun W => refOne_at 1 X W)
          unfold mk Ob.vl at HW HO
          go_wp2_with fail
          refine (HW.out _).mono ?_; rintro e w1 ⟨rfl, hb1⟩
          have HB1 := Lib.hid hb1
          clear hb1
          go_wp2_with fail
          refine (HO.out _).mono ?_; rintro e w2 ⟨bq, hbq, rfl, hro⟩
          have HRO := Lib.hid (hro.after HB1.out)
          have HQ := Lib.hid (Nat.le_trans HB1.out.size hbq)
          clear hro hbq
          go_wp2_with fail
          go_ret2
          exact ⟨bq, HQ.out, rfl, by rw [HF.out, HV.out]; exact HRO.out⟩
    | succ m =>
      obtain ⟨X, hX⟩ : ∃ X, a * 2 ^ (J - (m + 1)) % 4294967296 = X := ⟨_, rfl⟩
      have HS := Lib.hid (dbl_step hX)
      have hx0 : 0 ≤ X := by omega
      have hx1 : X < 4294967296 := by omega
      rw [hX]
      clear hX
      go_wp2_with fail
      refine ⟨⟨m, by omega, by rw [HS.out, show J - (m + 1) + 1 = J - m by omega], by simp <;> omega⟩, ?_⟩
      simp [intOf] <;> omega
set_option maxHeartbeats 1000000 in
set_option maxRecDepth 100000 in
theorem refInts_shr_pos (a : Int) (J : Nat) (hs : 0 ≤ a) (a2 : a ≤ 2147483647) (hJ : J ≤ 31) (hJ0 : 0 < J) (w : World) : Calls Tryd.prog 26 #[.string ⟨#[98, 105, 116, 115, 104, 105, 102, 116]⟩, .int .i64 a, .int .i64 (-(J : Int))] w fun e w' => ∃ bq, w.heap.size ≤ bq ∧ e = .returned (.tuple #[.slice (some ⟨bq, 0, none⟩) 1 1, .int .i64 0]) ∧ RefO w (okO 1 (wrap32 (a / 2 ^ J))) (.returned (.tuple #[.slice (some ⟨bq, 0, none⟩) 1 1, .int .i64 0])) w' := by
  have hJ1 : decide (31 < -(J : Int)) = false := decide_eq_false (by omega)
  have hJ2 : decide (-(J : Int) < -31) = false := decide_eq_false (by omega)
  go_enter Tryd.func26, Tryd.ntmps26
  go_wp2_with fail
  go_loop [1, 2] (fun x s => x = .int .i64 a ∧ s = .int .i64 (-(J : Int))) (fun _ _ => 0)
  case atStart => exact ⟨rfl, rfl⟩
  case round =>
    obtain ⟨rfl, rfl⟩ := hrel
    go_wp2_with fail
    go_loop [1, 2] (fun x s => ∃ k : Nat, k ≤ J ∧ x = .int .i64 (a / 2 ^ (J - k)) ∧ s = .int .i64 (-(k : Int))) (fun _ s => (-(intOf s)).toNat)
    case atStart => exact ⟨J, Nat.le_refl _, by rw [Nat.sub_self, Int.pow_zero, Int.ediv_one], rfl⟩
    case round =>
      obtain ⟨k, hk, rfl, rfl⟩ := hrel
      have hb : ∀ j : Nat, 0 ≤ a / 2 ^ j ∧ a / 2 ^ j < 4294967296 := fun j => ⟨Int.ediv_nonneg (by omega) (Int.le_of_lt (Int.pow_pos (by decide))), Int.lt_of_le_of_lt (Int.ediv_le_self _ (by omega)) (by omega)⟩
      cases k with
      | zero =>
        obtain ⟨X, hX⟩ : ∃ X, a / 2 ^ J = X := ⟨_, rfl⟩
        have HF := Lib.hid hX
        obtain ⟨hx0, hx1⟩ := hb J
        rw [hX] at hx0 hx1
        rw [Nat.sub_zero, hX, show -((0 : Nat) : Int) = 0 from rfl]
        clear hX hb
        by_cases hbig : 2147483648 ≤ X
        · have HV := Lib.hid (show wrap32 X = X - 4294967296 by unfold wrap32; omega)
          have HW := Lib.hid (fun W => refWhole_at (X - 4294967296) W)
          have HO := Lib.hid (fun W => refOne_at 1 (X - 4294967296) W)
          unfold mk Ob.vl at HW HO
          go_wp2_with fail
          refine (HW.out _).mono ?_; rintro e w1 ⟨rfl, hb1⟩
          have HB1 := Lib.hid hb1
          clear hb1
          go_wp2_with fail
          refine (HO.out _).mono ?_; rintro e w2 ⟨bq, hbq, rfl, hro⟩
          have HRO := Lib.hid (hro.after HB1.out)
          have HQ := Lib.hid (Nat.le_trans HB1.out.size hbq)
          clear hro hbq
          go_wp2_with fail
          go_ret2
          exact ⟨bq, HQ.out, rfl, by rw [HF.out, HV.out]; exact HRO.out⟩
        · have HV := Lib.hid (show wrap32 X = X by unfold wrap32; omega)
          have HW := Lib.hid (fun W => refWhole_at X W)
          have HO := Lib.hid (fun W => refOne_at 1 X W)
          unfold mk Ob.vl at HW HO
          go_wp2_with fail
          refine (HW.out _).mono ?_; rintro e w1 ⟨rfl, hb1⟩
          have HB1 := Lib.hid hb1
          clear hb1
          go_wp2_with fail
          refine (HO.out _).mono ?_; rintro e w2 ⟨bq, hbq, rfl, hro⟩
          have HRO := Lib.hid (hro.after HB1.out)
          have HQ := Lib.hid (Nat.le_trans HB1.out.size hbq)
          clear hro hbq
          go_wp2_with fail
          go_ret2
          exact ⟨bq, HQ.out, rfl, by rw [HF.out, HV.out]; exact HRO.out⟩
      | succ m =>
        obtain ⟨X, hX⟩ : ∃ X, a / 2 ^ (J - (m + 1)) = X := ⟨_, rfl⟩
        have HS := Lib.hid (hlf_step hX)
        obtain ⟨hx0, hx1⟩ := hb (J - (m + 1))
        rw [hX] at hx0 hx1
        rw [hX]
        clear hX hb
        go_wp2_with fail
        refine ⟨⟨m, by omega, by rw [HS.out, show J - (m + 1) + 1 = J - m by omega], by simp <;> omega⟩, ?_⟩
        simp [intOf] <;> omega
end Ari
end Go.Proofs.YtgbpldfcahajeaaDoor
