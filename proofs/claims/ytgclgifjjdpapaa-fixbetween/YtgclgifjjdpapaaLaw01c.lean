/-
  The walk of the law FixBetween.
-/
import Derived.Test.YtgclgifjjdpapaaLaw01b
namespace Go.Proofs.Ytgclgifjjdpapaa
open Go.RowKit
open Fx
theorem fixFloor_at (n l : Int) (h : fits n = true) (hl : flo n = l) (w : World) :
    Calls Try.prog 29 #[.int .i64 n] w fun e w' => e = .returned (.int .i64 l) ∧ w = w' := by
  have := fixFloor_any n w
  simp only [floV, h, if_true, hl] at this
  exact this
theorem fixTruncate_at (n t : Int) (h : fits n = true) (ht : n.tdiv 65536 * 65536 = t) (w : World) :
    Calls Try.prog 31 #[.int .i64 n] w fun e w' => e = .returned (.int .i64 t) ∧ w = w' := by
  have := fixTruncate_any n w
  simp only [truV, h, if_true, ht] at this
  exact this
theorem fixCeiling_yes (n c : Int) (h : fits n = true) (hc : flo (n + 65535) = c) (hf : fits c = true) (w : World) :
    Calls Try.prog 23 #[.int .i64 n] w fun e w' => e = .returned (.tuple #[.int .i64 c, .int .i64 0]) ∧ w = w' := by
  have := fixCeiling_any n w
  simp only [ceilV, ceilE, h, hc, if_true, outV_yes hf, outE_yes hf] at this
  exact this
theorem fixCeiling_no (n : Int) (h : fits n = true) (hf : fits (flo (n + 65535)) = false) (w : World) :
    Calls Try.prog 23 #[.int .i64 n] w fun e w' => e = .returned (.tuple #[.int .i64 0, .int .i64 18]) ∧ w = w' := by
  have := fixCeiling_any n w
  simp only [ceilV, ceilE, h, if_true, outV_no hf, outE_no hf] at this
  exact this
theorem fixRound_yes (n c : Int) (h : fits n = true) (hc : flo (n + 32768) = c) (hf : fits c = true) (w : World) :
    Calls Try.prog 25 #[.int .i64 n] w fun e w' => e = .returned (.tuple #[.int .i64 c, .int .i64 0]) ∧ w = w' := by
  have := fixRound_any n w
  simp only [rouV, rouE, h, hc, if_true, outV_yes hf, outE_yes hf] at this
  exact this
theorem fixRound_no (n : Int) (h : fits n = true) (hf : fits (flo (n + 32768)) = false) (w : World) :
    Calls Try.prog 25 #[.int .i64 n] w fun e w' => e = .returned (.tuple #[.int .i64 0, .int .i64 18]) ∧ w = w' := by
  have := fixRound_any n w
  simp only [rouV, rouE, h, if_true, outV_no hf, outE_no hf] at this
  exact this
set_option maxHeartbeats 4000000 in
theorem lawFixBetween (n : Int) (w0 : (Lit.int .i32 n).wf = true) (w : World) :
    Calls Try.prog 7 #[.int .i32 n] w fun e w' => e = .returned (.bool true) ∧ ∃ k, w' = w.drewN k := by
  have bx := bounds_i32 w0
  have hx : fits n = true := (fits_iff n).2 bx
  obtain ⟨n1, n2⟩ := bx
  clear w0
  obtain ⟨l, hl⟩ : ∃ l : Int, flo n = l * 65536 := ⟨n / 65536, by unfold flo; omega⟩
  obtain ⟨l1, l2⟩ : l * 65536 ≤ n ∧ n - l * 65536 < 65536 := by unfold flo at hl; omega
  have hF := Lib.hid (fixFloor_at n _ hx hl)
  have hT := Lib.hid (fixTruncate_at n _ hx rfl)
  have t1 : n < 0 → n ≤ n.tdiv 65536 * 65536 := by intro h; rw [tdiv_one n h]; omega
  have t2 : n < 0 → n.tdiv 65536 * 65536 ≤ 0 := by intro h; rw [tdiv_one n h]; omega
  have t3 : 0 ≤ n → n.tdiv 65536 * 65536 ≤ n := by intro h; rw [Int.tdiv_eq_ediv_of_nonneg h]; omega
  have t4 : 0 ≤ n → 0 ≤ n.tdiv 65536 * 65536 := by intro h; rw [Int.tdiv_eq_ediv_of_nonneg h]; omega
  have hC : Hid (∀ w, Calls Try.prog 23 #[.int .i64 n] w fun e w' => e = .returned (.tuple #[.int .i64 0, .int .i64 18]) ∧ w = w') ∨
      ∃ c : Int, Hid (∀ w, Calls Try.prog 23 #[.int .i64 n] w fun e w' => e = .returned (.tuple #[.int .i64 (c * 65536), .int .i64 0]) ∧ w = w') ∧
        n ≤ c * 65536 ∧ c * 65536 - l * 65536 ≤ 65536 := by
    cases hf : fits (flo (n + 65535))
    · exact Or.inl (Lib.hid (fixCeiling_no n hx hf))
    · obtain ⟨c, hc⟩ : ∃ c : Int, flo (n + 65535) = c * 65536 := ⟨(n + 65535) / 65536, by unfold flo; omega⟩
      refine Or.inr ⟨c, Lib.hid (fixCeiling_yes n _ hx hc (by rw [← hc]; exact hf)), ?_, ?_⟩ <;> unfold flo at hc hl <;> omega
  have hR : Hid (∀ w, Calls Try.prog 25 #[.int .i64 n] w fun e w' => e = .returned (.tuple #[.int .i64 0, .int .i64 18]) ∧ w = w') ∨
      (Hid (∀ w, Calls Try.prog 25 #[.int .i64 n] w fun e w' => e = .returned (.tuple #[.int .i64 (l * 65536), .int .i64 0]) ∧ w = w') ∧ n - l * 65536 < 32768) ∨
      (Hid (∀ w, Calls Try.prog 25 #[.int .i64 n] w fun e w' => e = .returned (.tuple #[.int .i64 (l * 65536 + 65536), .int .i64 0]) ∧ w = w') ∧ 32768 ≤ n - l * 65536) := by
    cases hf : fits (flo (n + 32768))
    · exact Or.inl (Lib.hid (fixRound_no n hx hf))
    · right
      by_cases h : n - l * 65536 < 32768
      · have hc : flo (n + 32768) = l * 65536 := by unfold flo at *; omega
        exact Or.inl ⟨Lib.hid (fixRound_yes n _ hx hc (by rw [← hc]; exact hf)), h⟩
      · have hc : flo (n + 32768) = l * 65536 + 65536 := by unfold flo at *; omega
        exact Or.inr ⟨Lib.hid (fixRound_yes n _ hx hc (by rw [← hc]; exact hf)), by omega⟩
  clear hl hx
  generalize n.tdiv 65536 = t at *
  have l3 : -32768 ≤ l := by omega
  have l4 : l ≤ 32767 := by omega
  have d1 : decide (n < l * 65536) = false := by simp; omega
  have d2 : decide (65536 ≤ n - l * 65536) = false := by simp; omega
  have tt : (t * 65536 < 0 ∧ n ≤ t * 65536) ∨ (t = 0) ∨ (0 < t * 65536 ∧ t * 65536 ≤ n) := by
    by_cases h0 : n < 0
    · have u1 := t1 h0; have u2 := t2 h0; omega
    · have u1 := t3 (by omega); have u2 := t4 (by omega); omega
  clear t1 t2 t3 t4
  rcases tt with ⟨u1, u2⟩ | u1 | ⟨u1, u2⟩
  · have d3 : decide (t * 65536 < 0) = true := by simp; omega
    have d4 : decide (t * 65536 < n) = false := by simp; omega
    have d5 : decide (0 < t * 65536) = false := by simp; omega
    rcases hC with hC | ⟨c, hC, c1, c2⟩
    · rcases hR with hR | ⟨hR, r1⟩ | ⟨hR, r1⟩
      all_goals
        go_enter Try.func7, Try.ntmps7
        go_wp2_with fail
        refine (hF.out _).mono ?_; rintro e w' ⟨rfl, rfl⟩
        go_wp2_with fail
        refine (hC.out _).mono ?_; rintro e w' ⟨rfl, rfl⟩
        go_wp2_with fail
        refine (hR.out _).mono ?_; rintro e w' ⟨rfl, rfl⟩
        go_wp2_with fail
        refine (hT.out _).mono ?_; rintro e w' ⟨rfl, rfl⟩
        go_wp2_with fail
        refine (answers_any _).mono ?_; rintro e w' ⟨rfl, k1, rfl⟩
        go_wp2_with fail
        go_ret
        exact ⟨rfl, _, rfl⟩
    · have d6 : decide (c * 65536 < n) = false := by simp; omega
      have d7 : decide (65536 < c * 65536 - l * 65536) = false := by simp; omega
      rcases hR with hR | ⟨hR, r1⟩ | ⟨hR, r1⟩
      all_goals
        go_enter Try.func7, Try.ntmps7
        go_wp2_with fail
        refine (hF.out _).mono ?_; rintro e w' ⟨rfl, rfl⟩
        go_wp2_with fail
        refine (hC.out _).mono ?_; rintro e w' ⟨rfl, rfl⟩
        go_wp2_with fail
        refine (hR.out _).mono ?_; rintro e w' ⟨rfl, rfl⟩
        go_wp2_with fail
        refine (hT.out _).mono ?_; rintro e w' ⟨rfl, rfl⟩
        go_wp2_with fail
        refine (answers_any _).mono ?_; rintro e w' ⟨rfl, k1, rfl⟩
        go_wp2_with fail
        go_ret
        exact ⟨rfl, _, rfl⟩
  · subst u1
    rw [Int.zero_mul] at hT
    rcases hC with hC | ⟨c, hC, c1, c2⟩
    · rcases hR with hR | ⟨hR, r1⟩ | ⟨hR, r1⟩
      all_goals
        go_enter Try.func7, Try.ntmps7
        go_wp2_with fail
        refine (hF.out _).mono ?_; rintro e w' ⟨rfl, rfl⟩
        go_wp2_with fail
        refine (hC.out _).mono ?_; rintro e w' ⟨rfl, rfl⟩
        go_wp2_with fail
        refine (hR.out _).mono ?_; rintro e w' ⟨rfl, rfl⟩
        go_wp2_with fail
        refine (hT.out _).mono ?_; rintro e w' ⟨rfl, rfl⟩
        go_wp2_with fail
        refine (answers_any _).mono ?_; rintro e w' ⟨rfl, k1, rfl⟩
        go_wp2_with fail
        go_ret
        exact ⟨rfl, _, rfl⟩
    · have d6 : decide (c * 65536 < n) = false := by simp; omega
      have d7 : decide (65536 < c * 65536 - l * 65536) = false := by simp; omega
      rcases hR with hR | ⟨hR, r1⟩ | ⟨hR, r1⟩
      all_goals
        go_enter Try.func7, Try.ntmps7
        go_wp2_with fail
        refine (hF.out _).mono ?_; rintro e w' ⟨rfl, rfl⟩
        go_wp2_with fail
        refine (hC.out _).mono ?_; rintro e w' ⟨rfl, rfl⟩
        go_wp2_with fail
        refine (hR.out _).mono ?_; rintro e w' ⟨rfl, rfl⟩
        go_wp2_with fail
        refine (hT.out _).mono ?_; rintro e w' ⟨rfl, rfl⟩
        go_wp2_with fail
        refine (answers_any _).mono ?_; rintro e w' ⟨rfl, k1, rfl⟩
        go_wp2_with fail
        go_ret
        exact ⟨rfl, _, rfl⟩
  · have d3 : decide (t * 65536 < 0) = false := by simp; omega
    have d4 : decide (n < t * 65536) = false := by simp; omega
    have d5 : decide (0 < t * 65536) = true := by simp; omega
    rcases hC with hC | ⟨c, hC, c1, c2⟩
    · rcases hR with hR | ⟨hR, r1⟩ | ⟨hR, r1⟩
      all_goals
        go_enter Try.func7, Try.ntmps7
        go_wp2_with fail
        refine (hF.out _).mono ?_; rintro e w' ⟨rfl, rfl⟩
        go_wp2_with fail
        refine (hC.out _).mono ?_; rintro e w' ⟨rfl, rfl⟩
        go_wp2_with fail
        refine (hR.out _).mono ?_; rintro e w' ⟨rfl, rfl⟩
        go_wp2_with fail
        refine (hT.out _).mono ?_; rintro e w' ⟨rfl, rfl⟩
        go_wp2_with fail
        refine (answers_any _).mono ?_; rintro e w' ⟨rfl, k1, rfl⟩
        go_wp2_with fail
        go_ret
        exact ⟨rfl, _, rfl⟩
    · have d6 : decide (c * 65536 < n) = false := by simp; omega
      have d7 : decide (65536 < c * 65536 - l * 65536) = false := by simp; omega
      rcases hR with hR | ⟨hR, r1⟩ | ⟨hR, r1⟩
      all_goals
        go_enter Try.func7, Try.ntmps7
        go_wp2_with fail
        refine (hF.out _).mono ?_; rintro e w' ⟨rfl, rfl⟩
        go_wp2_with fail
        refine (hC.out _).mono ?_; rintro e w' ⟨rfl, rfl⟩
        go_wp2_with fail
        refine (hR.out _).mono ?_; rintro e w' ⟨rfl, rfl⟩
        go_wp2_with fail
        refine (hT.out _).mono ?_; rintro e w' ⟨rfl, rfl⟩
        go_wp2_with fail
        refine (answers_any _).mono ?_; rintro e w' ⟨rfl, k1, rfl⟩
        go_wp2_with fail
        go_ret
        exact ⟨rfl, _, rfl⟩
end Go.Proofs.Ytgclgifjjdpapaa
