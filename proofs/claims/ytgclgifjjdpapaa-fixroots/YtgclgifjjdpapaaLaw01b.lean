/-
  The walks of the laws FixNear and FixBetween.
-/
import Derived.Test.YtgclgifjjdpapaaLaw01
namespace Go.Proofs.Ytgclgifjjdpapaa
open Go.RowKit
open Fx
theorem ret_bool {a b : Bool} (h : a = b) : Ending.returned (.bool a) = .returned (.bool b) := by rw [h]
theorem fixMul_yes (a b p : Int) (ha : fits a = true) (hb : fits b = true) (hp : near (a * b) 65536 = p) (h : fits p = true) (w : World) :
    Calls Try.prog 19 #[.int .i64 a, .int .i64 b] w fun e w' => e = .returned (.tuple #[.int .i64 p, .int .i64 0]) ∧ ∃ k, w' = w.drewN k := by
  have := fixMul_any a b w
  simp only [mulV, mulE, ha, hb, hp, Bool.and_self, if_true, outV_yes h, outE_yes h] at this
  exact this
theorem fixMul_no (a b : Int) (ha : fits a = true) (hb : fits b = true) (h : fits (near (a * b) 65536) = false) (w : World) :
    Calls Try.prog 19 #[.int .i64 a, .int .i64 b] w fun e w' => e = .returned (.tuple #[.int .i64 0, .int .i64 18]) ∧ ∃ k, w' = w.drewN k := by
  have := fixMul_any a b w
  simp only [mulV, mulE, ha, hb, Bool.and_self, if_true, outV_no h, outE_no h] at this
  exact this
theorem fixDiv_yes (a b p : Int) (ha : fits a = true) (hb : fits b = true) (hz : b ≠ 0) (hp : near (a * 65536) b = p) (h : fits p = true) (w : World) :
    Calls Try.prog 21 #[.int .i64 a, .int .i64 b] w fun e w' => e = .returned (.tuple #[.int .i64 p, .int .i64 0]) ∧ ∃ k, w' = w.drewN k := by
  have := fixDiv_any a b w
  simp only [divV, divE, ha, hb, hp, hz, Bool.and_self, if_true, if_false, outV_yes h, outE_yes h] at this
  exact this
theorem fixDiv_no (a b : Int) (ha : fits a = true) (hb : fits b = true) (h : b = 0 ∨ fits (near (a * 65536) b) = false) (w : World) :
    Calls Try.prog 21 #[.int .i64 a, .int .i64 b] w fun e w' => e = .returned (.tuple #[.int .i64 0, .int .i64 18]) ∧ ∃ k, w' = w.drewN k := by
  have := fixDiv_any a b w
  rcases h with h | h
  · subst h
    simp only [divV, divE, ha, hb, Bool.and_self, if_true] at this
    exact this
  · by_cases hz : b = 0
    · subst hz
      simp only [divV, divE, ha, hb, Bool.and_self, if_true] at this
      exact this
    · simp only [divV, divE, ha, hb, hz, Bool.and_self, if_true, if_false, outV_no h, outE_no h] at this
      exact this
set_option maxHeartbeats 1000000 in
theorem lawFixNear (a b : Int) (_w0 : (Lit.int .i64 a).wf = true) (_w1 : (Lit.int .i64 b).wf = true) (w : World) :
    Calls Try.prog 5 #[.int .i64 a, .int .i64 b] w fun e w' => e = .returned (.bool true) ∧ ∃ k, w' = w.drewN k := by
  cases ha : fits a
  · have hh := fun w => refFits_no a w ha
    clear ha _w0 _w1
    go_enter Try.func5, Try.ntmps5
    go_wp2_with fail
    refine (answers_any _).mono ?_; rintro e w' ⟨rfl, k1, rfl⟩
    go_wp2_with fail
    refine (hh _).mono ?_; rintro e w' ⟨rfl, rfl⟩
    go_wp2_with fail
    refine (answers_any _).mono ?_; rintro e w' ⟨rfl, k2, rfl⟩
    go_wp2_with fail
    go_ret
    exact ⟨rfl, _, rfl⟩
  cases hb : fits b
  · have hh := fun w => refFits_yes a w ha
    have hi := fun w => refFits_no b w hb
    clear ha hb _w0 _w1
    go_enter Try.func5, Try.ntmps5
    go_wp2_with fail
    refine (answers_any _).mono ?_; rintro e w' ⟨rfl, k1, rfl⟩
    go_wp2_with fail
    refine (hh _).mono ?_; rintro e w' ⟨rfl, rfl⟩
    go_wp2_with fail
    refine (hi _).mono ?_; rintro e w' ⟨rfl, rfl⟩
    go_wp2_with fail
    refine (answers_any _).mono ?_; rintro e w' ⟨rfl, k2, rfl⟩
    go_wp2_with fail
    go_ret
    exact ⟨rfl, _, rfl⟩
  have hh := Lib.hid (fun w : World => refFits_yes a w ha)
  have hi := Lib.hid (fun w : World => refFits_yes b w hb)
  obtain ⟨a1, a2⟩ := (fits_iff a).1 ha
  obtain ⟨b1, b2⟩ := (fits_iff b).1 hb
  obtain ⟨p1, p2⟩ := prod_bd a b (by omega) (by omega) (by omega) (by omega)
  have hD : Hid (∀ w, Calls Try.prog 21 #[.int .i64 a, .int .i64 b] w fun e w' => e = .returned (.tuple #[.int .i64 0, .int .i64 18]) ∧ ∃ k, w' = w.drewN k) ∨
      ∃ q : Int, Hid (∀ w, Calls Try.prog 21 #[.int .i64 a, .int .i64 b] w fun e w' => e = .returned (.tuple #[.int .i64 q, .int .i64 0]) ∧ ∃ k, w' = w.drewN k) ∧
        -2147483648 ≤ q ∧ q ≤ 2147483647 ∧ -4611686018427387904 ≤ q * b ∧ q * b ≤ 4611686018427387904 ∧
        (b < 0 → b ≤ 2 * (a * 65536 - q * b)) ∧ (b < 0 → 2 * (a * 65536 - q * b) ≤ -b) ∧ (0 ≤ b → -b ≤ 2 * (a * 65536 - q * b)) ∧ (0 ≤ b → 2 * (a * 65536 - q * b) ≤ b) := by
    by_cases hz : b = 0
    · exact Or.inl (Lib.hid (fixDiv_no a b ha hb (Or.inl hz)))
    · cases hq : fits (near (a * 65536) b)
      · exact Or.inl (Lib.hid (fixDiv_no a b ha hb (Or.inr hq)))
      · right
        obtain ⟨q1, q2⟩ := (fits_iff _).1 hq
        obtain ⟨q3, q4⟩ := prod_bd (near (a * 65536) b) b (by omega) (by omega) (by omega) (by omega)
        obtain ⟨q5, q6⟩ := near_close (a * 65536) b hz
        refine ⟨_, Lib.hid (fixDiv_yes a b _ ha hb hz rfl hq), q1, q2, q3, q4, ?_, ?_, ?_, ?_⟩ <;> intro h <;> first | (rw [absI_neg h] at q5 q6; omega) | (rw [absI_pos h] at q5 q6; omega)
  cases hp : fits (near (a * b) 65536)
  · have hM := Lib.hid (fixMul_no a b ha hb hp)
    clear ha hb hp _w0 _w1
    go_enter Try.func5, Try.ntmps5
    go_wp2_with fail
    refine (answers_any _).mono ?_; rintro e w' ⟨rfl, k1, rfl⟩
    go_wp2_with fail
    refine (hh.out _).mono ?_; rintro e w' ⟨rfl, rfl⟩
    go_wp2_with fail
    refine (hi.out _).mono ?_; rintro e w' ⟨rfl, rfl⟩
    go_wp2_with fail
    refine (hM.out _).mono ?_; rintro e w' ⟨rfl, k3, rfl⟩
    go_wp2_with fail
    rcases hD with hD | ⟨q, hD, q1, q2, q3, q4, q5, q6, q7, q8⟩
    · refine (hD.out _).mono ?_; rintro e w' ⟨rfl, k2, rfl⟩
      go_wp2_with fail
      go_ret
      exact ⟨rfl, _, rfl⟩
    · refine (hD.out _).mono ?_; rintro e w' ⟨rfl, k2, rfl⟩
      go_wp2_with fail
      all_goals
        go_ret
        refine ⟨ret_bool ?_, _, rfl⟩
        first | (simp; done) | (simp; omega)
  · obtain ⟨r1, r2⟩ := (fits_iff _).1 hp
    obtain ⟨r3, r4⟩ := near_D (a * b) 65536 (by omega)
    have hM := Lib.hid (fixMul_yes a b _ ha hb rfl hp)
    clear ha hb hp _w0 _w1
    generalize near (a * b) 65536 = p at *
    have hc : (a * b < 0 ∧ -65536 < 2 * (a * b - p * 65536) ∧ 2 * (a * b - p * 65536) < 65536) ∨ (a * b < 0 ∧ 65536 ≤ 2 * (a * b - p * 65536) ∧ 2 * (a * b - p * 65536) ≤ 65536) ∨
        (0 ≤ a * b ∧ -65536 < 2 * (a * b - p * 65536) ∧ 2 * (a * b - p * 65536) < 65536) ∨ (0 ≤ a * b ∧ -65536 ≤ 2 * (a * b - p * 65536) ∧ 2 * (a * b - p * 65536) ≤ -65536) := by
      by_cases h : a * b < 0
      · have := r4 h; omega
      · have := r3 (by omega); omega
    clear r3 r4
    rcases hc with ⟨c1, c2, c3⟩ | ⟨c1, c2, c3⟩ | ⟨c1, c2, c3⟩ | ⟨c1, c2, c3⟩
    · go_enter Try.func5, Try.ntmps5
      go_wp2_with fail
      refine (answers_any _).mono ?_; rintro e w' ⟨rfl, k1, rfl⟩
      go_wp2_with fail
      refine (hh.out _).mono ?_; rintro e w' ⟨rfl, rfl⟩
      go_wp2_with fail
      refine (hi.out _).mono ?_; rintro e w' ⟨rfl, rfl⟩
      go_wp2_with fail
      refine (hM.out _).mono ?_; rintro e w' ⟨rfl, k3, rfl⟩
      go_wp2_with fail
      rcases hD with hD | ⟨q, hD, q1, q2, q3, q4, q5, q6, q7, q8⟩
      · refine (hD.out _).mono ?_; rintro e w' ⟨rfl, k2, rfl⟩
        go_wp2_with fail
        go_ret
        exact ⟨rfl, _, rfl⟩
      · refine (hD.out _).mono ?_; rintro e w' ⟨rfl, k2, rfl⟩
        go_wp2_with fail
        all_goals
          go_ret
          refine ⟨ret_bool ?_, _, rfl⟩
          first | (simp; done) | (simp; omega)
    · go_enter Try.func5, Try.ntmps5
      go_wp2_with fail
      refine (answers_any _).mono ?_; rintro e w' ⟨rfl, k1, rfl⟩
      go_wp2_with fail
      refine (hh.out _).mono ?_; rintro e w' ⟨rfl, rfl⟩
      go_wp2_with fail
      refine (hi.out _).mono ?_; rintro e w' ⟨rfl, rfl⟩
      go_wp2_with fail
      refine (hM.out _).mono ?_; rintro e w' ⟨rfl, k3, rfl⟩
      go_wp2_with fail
      rcases hD with hD | ⟨q, hD, q1, q2, q3, q4, q5, q6, q7, q8⟩
      · refine (hD.out _).mono ?_; rintro e w' ⟨rfl, k2, rfl⟩
        go_wp2_with fail
        go_ret
        exact ⟨rfl, _, rfl⟩
      · refine (hD.out _).mono ?_; rintro e w' ⟨rfl, k2, rfl⟩
        go_wp2_with fail
        all_goals
          go_ret
          refine ⟨ret_bool ?_, _, rfl⟩
          first | (simp; done) | (simp; omega)
    · go_enter Try.func5, Try.ntmps5
      go_wp2_with fail
      refine (answers_any _).mono ?_; rintro e w' ⟨rfl, k1, rfl⟩
      go_wp2_with fail
      refine (hh.out _).mono ?_; rintro e w' ⟨rfl, rfl⟩
      go_wp2_with fail
      refine (hi.out _).mono ?_; rintro e w' ⟨rfl, rfl⟩
      go_wp2_with fail
      refine (hM.out _).mono ?_; rintro e w' ⟨rfl, k3, rfl⟩
      go_wp2_with fail
      rcases hD with hD | ⟨q, hD, q1, q2, q3, q4, q5, q6, q7, q8⟩
      · refine (hD.out _).mono ?_; rintro e w' ⟨rfl, k2, rfl⟩
        go_wp2_with fail
        go_ret
        exact ⟨rfl, _, rfl⟩
      · refine (hD.out _).mono ?_; rintro e w' ⟨rfl, k2, rfl⟩
        go_wp2_with fail
        all_goals
          go_ret
          refine ⟨ret_bool ?_, _, rfl⟩
          first | (simp; done) | (simp; omega)
    · go_enter Try.func5, Try.ntmps5
      go_wp2_with fail
      refine (answers_any _).mono ?_; rintro e w' ⟨rfl, k1, rfl⟩
      go_wp2_with fail
      refine (hh.out _).mono ?_; rintro e w' ⟨rfl, rfl⟩
      go_wp2_with fail
      refine (hi.out _).mono ?_; rintro e w' ⟨rfl, rfl⟩
      go_wp2_with fail
      refine (hM.out _).mono ?_; rintro e w' ⟨rfl, k3, rfl⟩
      go_wp2_with fail
      rcases hD with hD | ⟨q, hD, q1, q2, q3, q4, q5, q6, q7, q8⟩
      · refine (hD.out _).mono ?_; rintro e w' ⟨rfl, k2, rfl⟩
        go_wp2_with fail
        go_ret
        exact ⟨rfl, _, rfl⟩
      · refine (hD.out _).mono ?_; rintro e w' ⟨rfl, k2, rfl⟩
        go_wp2_with fail
        all_goals
          go_ret
          refine ⟨ret_bool ?_, _, rfl⟩
          first | (simp; done) | (simp; omega)
end Go.Proofs.Ytgclgifjjdpapaa
