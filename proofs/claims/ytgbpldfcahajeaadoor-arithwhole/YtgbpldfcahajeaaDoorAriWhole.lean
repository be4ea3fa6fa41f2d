/-
  ArithWhole: its walk (made by genwhole.py).
-/
import Derived.Test.YtgbpldfcahajeaaDoorAriWhB
import Derived.Test.YtgbpldfcahajeaaDoorAriWhC
namespace Go.Proofs.YtgbpldfcahajeaaDoor
open Go.RowKit
open Fx
namespace Ari
theorem whole_walk (a b : Int) (ha : -32768 ≤ a ∧ a ≤ 32767) (hb : -32768 ≤ b ∧ b ≤ 32767) (w : World) : Calls Tryd.prog 5 #[.int .i16 a, .int .i16 b] w fun e w' => e = .returned (.bool true) ∧ Below w.heap.size w w' := by
  by_cases h0 : b = 0
  · subst h0; exact whole_nul a ha w
  · obtain ⟨e, q1, q2, r1, r2, hl, s1, s2⟩ := rest_facts ha hb h0
    generalize hq : a.tdiv b = q at *
    generalize hm : a.tmod b = r at *
    have hqb : -65536 ≤ q * b ∧ q * b ≤ 65536 := by omega
    rcases Int.lt_trichotomy r 0 with hr | hr | hr
    · have has := s1 hr
      rcases Int.lt_or_gt_of_ne h0 with hbs | hbs
      · exact whole_neg_neg_neg a b ha hb q r hq hm e hqb ⟨r1, r2⟩ hr has hbs (by rw [if_pos hr] at hl; split at hl <;> omega) w
      · exact whole_neg_neg_pos a b ha hb q r hq hm e hqb ⟨r1, r2⟩ hr has hbs (by rw [if_pos hr] at hl; split at hl <;> omega) w
    · rcases Int.lt_or_le a 0 with has | has
      · rcases Int.lt_or_gt_of_ne h0 with hbs | hbs
        · exact whole_zero_neg_neg a b ha hb q r hq hm e ⟨r1, r2⟩ hr has hbs w
        · exact whole_zero_neg_pos a b ha hb q r hq hm e ⟨r1, r2⟩ hr has hbs w
      · rcases Int.lt_or_gt_of_ne h0 with hbs | hbs
        · exact whole_zero_pos_neg a b ha hb q r hq hm e ⟨r1, r2⟩ hr has hbs w
        · exact whole_zero_pos_pos a b ha hb q r hq hm e ⟨r1, r2⟩ hr has hbs w
    · have has := s2 hr
      rcases Int.lt_or_gt_of_ne h0 with hbs | hbs
      · exact whole_pos_pos_neg a b ha hb q r hq hm e hqb ⟨r1, r2⟩ hr has hbs (by rw [if_neg (by omega)] at hl; split at hl <;> omega) w
      · exact whole_pos_pos_pos a b ha hb q r hq hm e hqb ⟨r1, r2⟩ hr has hbs (by rw [if_neg (by omega)] at hl; split at hl <;> omega) w
end Ari
end Go.Proofs.YtgbpldfcahajeaaDoor
