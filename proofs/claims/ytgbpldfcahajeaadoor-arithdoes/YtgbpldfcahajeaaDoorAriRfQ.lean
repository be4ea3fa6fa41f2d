/-
  The document's own Arith: comparisons (made by genref.py).
  The document's own Arith: comparisons (made by genref.py).
-/
import Derived.Test.YtgbpldfcahajeaaDoorAriRf
import Derived.Deep.RegionWith
namespace Go.Proofs.YtgbpldfcahajeaaDoor
open Go.RowKit
open Fx
namespace Ari
set_option maxHeartbeats 2000000 in
set_option maxRecDepth 100000 in
theorem ref_gt_no {a b : Ob} {B c : Nat} {w : World} (ha : At10 w B 0 a) (hb : At10 w B 10 b) (hn : (isNumB a && isNumB b) = false) : Calls Tryd.prog 12 #[.string ⟨#[103, 116]⟩, .slice (some ⟨B, 0, none⟩) 2 c] w fun e w' => RefO w (cmpO (fun x y => decide (y < x)) a b) e w' := by
    have e0 : cmpO (fun x y => decide (y < x)) a b = noO 16 := by unfold cmpO truO; rw [hn]; simp
    rw [e0]
    clear e0
    have hNa := refNum_at a
    have hNb := refNum_at b
    obtain ⟨a0, a1, a2, a3, a4, a5, a6, a7, a8, a9⟩ := ha
    obtain ⟨b0, b1, b2, b3, b4, b5, b6, b7, b8, b9⟩ := hb
    simp only [Nat.zero_add, Nat.reduceAdd] at *
    have hlt := World.block_lt_of_cell? w _ a0
    cases h1 : isNumB a
    · rw [h1] at hNa
      clear h1 hn hNb
      obtain ⟨ka, xa, ca, na, sa, ra, fa, la⟩ := a
      obtain ⟨kb, xb, cb, nb, sb, rb, fb, lb⟩ := b
      unfold Ob.vl at *
      simp only at *
      go_enter Tryd.func12, Tryd.ntmps12
      go_wp2_with fail
      refine (hNa _).mono ?_; rintro e w1 ⟨rfl, hb1⟩
      have p10 := rule hb1 (w.heap.size) (by simp <;> omega)
      have p11 := rule hb1 (w.heap.size + 1) (by simp <;> omega)
      have HB1 := Lib.hid (bthen (below2 _ _ _ ) hb1)
      have hz1 : w.heap.size + 1 < w1.heap.size := by have := hb1.size; simp at this; omega
      clear hb1
      go_wp2_with fail
      go_ret2
      exact RefO.err (by decide) HB1.out
    · have h2 : isNumB b = false := by rw [h1] at hn; simpa using hn
      rw [h1] at hNa
      rw [h2] at hNb
      clear h1 h2 hn
      obtain ⟨ka, xa, ca, na, sa, ra, fa, la⟩ := a
      obtain ⟨kb, xb, cb, nb, sb, rb, fb, lb⟩ := b
      unfold Ob.vl at *
      simp only at *
      go_enter Tryd.func12, Tryd.ntmps12
      go_wp2_with fail
      refine (hNa _).mono ?_; rintro e w1 ⟨rfl, hb1⟩
      have p10 := rule hb1 (w.heap.size) (by simp <;> omega)
      have p11 := rule hb1 (w.heap.size + 1) (by simp <;> omega)
      have HB1 := Lib.hid (bthen (below2 _ _ _ ) hb1)
      have hz1 : w.heap.size + 1 < w1.heap.size := by have := hb1.size; simp at this; omega
      clear hb1
      go_wp2_with fail
      refine (hNb _).mono ?_; rintro e w2 ⟨rfl, hb2⟩
      have p20 := rule hb2 (w.heap.size) (by omega)
      have p21 := rule hb2 (w.heap.size + 1) (by omega)
      have HB2 := Lib.hid (bthen HB1.out hb2)
      have hz2 : w.heap.size + 1 < w2.heap.size := by have := hb2.size; omega
      clear hb2
      go_wp2_with fail
      go_ret2
      exact RefO.err (by decide) HB2.out
set_option maxHeartbeats 2000000 in
set_option maxRecDepth 100000 in
theorem ref_gt_yes {a b : Ob} {B c : Nat} {w : World} (ha : At10 w B 0 a) (hb : At10 w B 10 b) (hn : (isNumB a && isNumB b) = true) (hq : valI b < valI a) : Calls Tryd.prog 12 #[.string ⟨#[103, 116]⟩, .slice (some ⟨B, 0, none⟩) 2 c] w fun e w' => RefO w (cmpO (fun x y => decide (y < x)) a b) e w' := by
    have e0 : cmpO (fun x y => decide (y < x)) a b = okO 3 1 := by unfold cmpO truO; rw [hn]; simp [hq]
    rw [e0]
    clear e0
    rw [Bool.and_eq_true] at hn
    have hNa := refNum_at a
    have hNb := refNum_at b
    rw [hn.1] at hNa
    rw [hn.2] at hNb
    have h1 := hn.1
    have h2 := hn.2
    have HX := Lib.hid (fun W => refValue_at a W h1)
    have HY := Lib.hid (fun W => refValue_at b W h2)
    clear h1 h2 hn
    generalize valI a = x at *
    generalize valI b = y at *
    have hT : ∀ W, Calls Tryd.prog 20 #[.bool (true)] W fun e w' => e = .returned (mk 3 1).vl ∧ Below W.heap.size W w' := by
      intro W
      have h0 := refTruth_at true W
      exact h0
    have hO := fun W => refOne_at 3 1 W
    have HT := Lib.hid hT
    have HO := Lib.hid hO
    clear hT hO
    obtain ⟨a0, a1, a2, a3, a4, a5, a6, a7, a8, a9⟩ := ha
    obtain ⟨b0, b1, b2, b3, b4, b5, b6, b7, b8, b9⟩ := hb
    simp only [Nat.zero_add, Nat.reduceAdd] at *
    have hlt := World.block_lt_of_cell? w _ a0
    obtain ⟨ka, xa, ca, na, sa, ra, fa, la⟩ := a
    obtain ⟨kb, xb, cb, nb, sb, rb, fb, lb⟩ := b
    unfold mk Ob.vl at *
    simp only at *
    go_enter Tryd.func12, Tryd.ntmps12
    go_wp2_with fail
    refine (hNa _).mono ?_; rintro e w1 ⟨rfl, hb1⟩
    have p10 := rule hb1 (w.heap.size) (by simp <;> omega)
    have p11 := rule hb1 (w.heap.size + 1) (by simp <;> omega)
    have HB1 := Lib.hid (bthen (below2 _ _ _ ) hb1)
    have hz1 : w.heap.size + 1 < w1.heap.size := by have := hb1.size; simp at this; omega
    clear hb1
    go_wp2_with fail
    refine (hNb _).mono ?_; rintro e w2 ⟨rfl, hb2⟩
    have p20 := rule hb2 (w.heap.size) (by omega)
    have p21 := rule hb2 (w.heap.size + 1) (by omega)
    have HB2 := Lib.hid (bthen HB1.out hb2)
    have hz2 : w.heap.size + 1 < w2.heap.size := by have := hb2.size; omega
    clear hb2
    go_wp2_with fail
    go_region_with (first | (with_reducible refine (HX.out _).mono ?_; rintro e w3 ⟨rfl, hb3⟩; have p30 := ruleD hb3 (w.heap.size) (by omega); have p31 := ruleD hb3 (w.heap.size + 1) (by omega); have HB3 := Lib.hid (bthenD HB2.out hb3); have hz3 : w.heap.size + 1 < w3.heap.size := (by have h0 := hb3.size; have h1 : w2.drew.heap.size = w2.heap.size := rfl; omega); clear hb3) | (with_reducible refine (HY.out _).mono ?_; rintro e w4 ⟨rfl, hb4⟩; have HB4 := Lib.hid (bthen HB3.out hb4); clear hb4) | (with_reducible refine (HT.out _).mono ?_; rintro e w5 ⟨rfl, hb5⟩; have HB5 := Lib.hid (bthen HB4.out hb5); clear hb5) | (with_reducible refine (HO.out _).mono ?_; rintro e w6 ⟨bq, hbq, rfl, hro⟩; have HRO := Lib.hid (hro.after HB5.out); clear hro))
    all_goals go_wp2_with fail
    all_goals go_ret2
    all_goals exact HRO.out
set_option maxHeartbeats 2000000 in
set_option maxRecDepth 100000 in
theorem ref_gt_yet {a b : Ob} {B c : Nat} {w : World} (ha : At10 w B 0 a) (hb : At10 w B 10 b) (hn : (isNumB a && isNumB b) = true) (hq : ¬ (valI b < valI a)) : Calls Tryd.prog 12 #[.string ⟨#[103, 116]⟩, .slice (some ⟨B, 0, none⟩) 2 c] w fun e w' => RefO w (cmpO (fun x y => decide (y < x)) a b) e w' := by
    have e0 : cmpO (fun x y => decide (y < x)) a b = okO 3 0 := by unfold cmpO truO; rw [hn]; simp [hq]
    rw [e0]
    clear e0
    rw [Bool.and_eq_true] at hn
    have hNa := refNum_at a
    have hNb := refNum_at b
    rw [hn.1] at hNa
    rw [hn.2] at hNb
    have h1 := hn.1
    have h2 := hn.2
    have HX := Lib.hid (fun W => refValue_at a W h1)
    have HY := Lib.hid (fun W => refValue_at b W h2)
    clear h1 h2 hn
    generalize valI a = x at *
    generalize valI b = y at *
    have hT : ∀ W, Calls Tryd.prog 20 #[.bool (decide (y < x))] W fun e w' => e = .returned (mk 3 0).vl ∧ Below W.heap.size W w' := by
      intro W
      have h0 := refTruth_at false W
      rw [decide_eq_false hq]; exact h0
    have hO := fun W => refOne_at 3 0 W
    have HT := Lib.hid hT
    have HO := Lib.hid hO
    clear hT hO
    obtain ⟨a0, a1, a2, a3, a4, a5, a6, a7, a8, a9⟩ := ha
    obtain ⟨b0, b1, b2, b3, b4, b5, b6, b7, b8, b9⟩ := hb
    simp only [Nat.zero_add, Nat.reduceAdd] at *
    have hlt := World.block_lt_of_cell? w _ a0
    obtain ⟨ka, xa, ca, na, sa, ra, fa, la⟩ := a
    obtain ⟨kb, xb, cb, nb, sb, rb, fb, lb⟩ := b
    unfold mk Ob.vl at *
    simp only at *
    go_enter Tryd.func12, Tryd.ntmps12
    go_wp2_with fail
    refine (hNa _).mono ?_; rintro e w1 ⟨rfl, hb1⟩
    have p10 := rule hb1 (w.heap.size) (by simp <;> omega)
    have p11 := rule hb1 (w.heap.size + 1) (by simp <;> omega)
    have HB1 := Lib.hid (bthen (below2 _ _ _ ) hb1)
    have hz1 : w.heap.size + 1 < w1.heap.size := by have := hb1.size; simp at this; omega
    clear hb1
    go_wp2_with fail
    refine (hNb _).mono ?_; rintro e w2 ⟨rfl, hb2⟩
    have p20 := rule hb2 (w.heap.size) (by omega)
    have p21 := rule hb2 (w.heap.size + 1) (by omega)
    have HB2 := Lib.hid (bthen HB1.out hb2)
    have hz2 : w.heap.size + 1 < w2.heap.size := by have := hb2.size; omega
    clear hb2
    go_wp2_with fail
    go_region_with (first | (with_reducible refine (HX.out _).mono ?_; rintro e w3 ⟨rfl, hb3⟩; have p30 := ruleD hb3 (w.heap.size) (by omega); have p31 := ruleD hb3 (w.heap.size + 1) (by omega); have HB3 := Lib.hid (bthenD HB2.out hb3); have hz3 : w.heap.size + 1 < w3.heap.size := (by have h0 := hb3.size; have h1 : w2.drew.heap.size = w2.heap.size := rfl; omega); clear hb3) | (with_reducible refine (HY.out _).mono ?_; rintro e w4 ⟨rfl, hb4⟩; have HB4 := Lib.hid (bthen HB3.out hb4); clear hb4) | (with_reducible refine (HT.out _).mono ?_; rintro e w5 ⟨rfl, hb5⟩; have HB5 := Lib.hid (bthen HB4.out hb5); clear hb5) | (with_reducible refine (HO.out _).mono ?_; rintro e w6 ⟨bq, hbq, rfl, hro⟩; have HRO := Lib.hid (hro.after HB5.out); clear hro))
    all_goals go_wp2_with fail
    all_goals go_ret2
    all_goals exact HRO.out
theorem ref_gt {a b : Ob} {B c : Nat} {w : World} (ha : At10 w B 0 a) (hb : At10 w B 10 b) : Calls Tryd.prog 12 #[.string ⟨#[103, 116]⟩, .slice (some ⟨B, 0, none⟩) 2 c] w fun e w' => RefO w (cmpO (fun x y => decide (y < x)) a b) e w' := by
  cases h : (isNumB a && isNumB b)
  · exact ref_gt_no ha hb h
  · by_cases hq : valI b < valI a
    · exact ref_gt_yes ha hb h hq
    · exact ref_gt_yet ha hb h hq
end Ari
end Go.Proofs.YtgbpldfcahajeaaDoor
namespace Go.Proofs.YtgbpldfcahajeaaDoor
open Go.RowKit
open Fx
namespace Ari
set_option maxHeartbeats 2000000 in
set_option maxRecDepth 100000 in
theorem ref_ge_no {a b : Ob} {B c : Nat} {w : World} (ha : At10 w B 0 a) (hb : At10 w B 10 b) (hn : (isNumB a && isNumB b) = false) : Calls Tryd.prog 12 #[.string ⟨#[103, 101]⟩, .slice (some ⟨B, 0, none⟩) 2 c] w fun e w' => RefO w (cmpO (fun x y => decide (y ≤ x)) a b) e w' := by
    have e0 : cmpO (fun x y => decide (y ≤ x)) a b = noO 16 := by unfold cmpO truO; rw [hn]; simp
    rw [e0]
    clear e0
    have hNa := refNum_at a
    have hNb := refNum_at b
    obtain ⟨a0, a1, a2, a3, a4, a5, a6, a7, a8, a9⟩ := ha
    obtain ⟨b0, b1, b2, b3, b4, b5, b6, b7, b8, b9⟩ := hb
    simp only [Nat.zero_add, Nat.reduceAdd] at *
    have hlt := World.block_lt_of_cell? w _ a0
    cases h1 : isNumB a
    · rw [h1] at hNa
      clear h1 hn hNb
      obtain ⟨ka, xa, ca, na, sa, ra, fa, la⟩ := a
      obtain ⟨kb, xb, cb, nb, sb, rb, fb, lb⟩ := b
      unfold Ob.vl at *
      simp only at *
      go_enter Tryd.func12, Tryd.ntmps12
      go_wp2_with fail
      refine (hNa _).mono ?_; rintro e w1 ⟨rfl, hb1⟩
      have p10 := rule hb1 (w.heap.size) (by simp <;> omega)
      have p11 := rule hb1 (w.heap.size + 1) (by simp <;> omega)
      have HB1 := Lib.hid (bthen (below2 _ _ _ ) hb1)
      have hz1 : w.heap.size + 1 < w1.heap.size := by have := hb1.size; simp at this; omega
      clear hb1
      go_wp2_with fail
      go_ret2
      exact RefO.err (by decide) HB1.out
    · have h2 : isNumB b = false := by rw [h1] at hn; simpa using hn
      rw [h1] at hNa
      rw [h2] at hNb
      clear h1 h2 hn
      obtain ⟨ka, xa, ca, na, sa, ra, fa, la⟩ := a
      obtain ⟨kb, xb, cb, nb, sb, rb, fb, lb⟩ := b
      unfold Ob.vl at *
      simp only at *
      go_enter Tryd.func12, Tryd.ntmps12
      go_wp2_with fail
      refine (hNa _).mono ?_; rintro e w1 ⟨rfl, hb1⟩
      have p10 := rule hb1 (w.heap.size) (by simp <;> omega)
      have p11 := rule hb1 (w.heap.size + 1) (by simp <;> omega)
      have HB1 := Lib.hid (bthen (below2 _ _ _ ) hb1)
      have hz1 : w.heap.size + 1 < w1.heap.size := by have := hb1.size; simp at this; omega
      clear hb1
      go_wp2_with fail
      refine (hNb _).mono ?_; rintro e w2 ⟨rfl, hb2⟩
      have p20 := rule hb2 (w.heap.size) (by omega)
      have p21 := rule hb2 (w.heap.size + 1) (by omega)
      have HB2 := Lib.hid (bthen HB1.out hb2)
      have hz2 : w.heap.size + 1 < w2.heap.size := by have := hb2.size; omega
      clear hb2
      go_wp2_with fail
      go_ret2
      exact RefO.err (by decide) HB2.out
set_option maxHeartbeats 2000000 in
set_option maxRecDepth 100000 in
theorem ref_ge_yes {a b : Ob} {B c : Nat} {w : World} (ha : At10 w B 0 a) (hb : At10 w B 10 b) (hn : (isNumB a && isNumB b) = true) (hq : valI b ≤ valI a) : Calls Tryd.prog 12 #[.string ⟨#[103, 101]⟩, .slice (some ⟨B, 0, none⟩) 2 c] w fun e w' => RefO w (cmpO (fun x y => decide (y ≤ x)) a b) e w' := by
    have e0 : cmpO (fun x y => decide (y ≤ x)) a b = okO 3 1 := by unfold cmpO truO; rw [hn]; simp [hq]
    rw [e0]
    clear e0
    rw [Bool.and_eq_true] at hn
    have hNa := refNum_at a
    have hNb := refNum_at b
    rw [hn.1] at hNa
    rw [hn.2] at hNb
    have h1 := hn.1
    have h2 := hn.2
    have HX := Lib.hid (fun W => refValue_at a W h1)
    have HY := Lib.hid (fun W => refValue_at b W h2)
    clear h1 h2 hn
    generalize valI a = x at *
    generalize valI b = y at *
    have hT : ∀ W, Calls Tryd.prog 20 #[.bool (true)] W fun e w' => e = .returned (mk 3 1).vl ∧ Below W.heap.size W w' := by
      intro W
      have h0 := refTruth_at true W
      exact h0
    have hO := fun W => refOne_at 3 1 W
    have HT := Lib.hid hT
    have HO := Lib.hid hO
    clear hT hO
    obtain ⟨a0, a1, a2, a3, a4, a5, a6, a7, a8, a9⟩ := ha
    obtain ⟨b0, b1, b2, b3, b4, b5, b6, b7, b8, b9⟩ := hb
    simp only [Nat.zero_add, Nat.reduceAdd] at *
    have hlt := World.block_lt_of_cell? w _ a0
    obtain ⟨ka, xa, ca, na, sa, ra, fa, la⟩ := a
    obtain ⟨kb, xb, cb, nb, sb, rb, fb, lb⟩ := b
    unfold mk Ob.vl at *
    simp only at *
    go_enter Tryd.func12, Tryd.ntmps12
    go_wp2_with fail
    refine (hNa _).mono ?_; rintro e w1 ⟨rfl, hb1⟩
    have p10 := rule hb1 (w.heap.size) (by simp <;> omega)
    have p11 := rule hb1 (w.heap.size + 1) (by simp <;> omega)
    have HB1 := Lib.hid (bthen (below2 _ _ _ ) hb1)
    have hz1 : w.heap.size + 1 < w1.heap.size := by have := hb1.size; simp at this; omega
    clear hb1
    go_wp2_with fail
    refine (hNb _).mono ?_; rintro e w2 ⟨rfl, hb2⟩
    have p20 := rule hb2 (w.heap.size) (by omega)
    have p21 := rule hb2 (w.heap.size + 1) (by omega)
    have HB2 := Lib.hid (bthen HB1.out hb2)
    have hz2 : w.heap.size + 1 < w2.heap.size := by have := hb2.size; omega
    clear hb2
    go_wp2_with fail
    go_region_with (first | (with_reducible refine (HX.out _).mono ?_; rintro e w3 ⟨rfl, hb3⟩; have p30 := ruleD hb3 (w.heap.size) (by omega); have p31 := ruleD hb3 (w.heap.size + 1) (by omega); have HB3 := Lib.hid (bthenD HB2.out hb3); have hz3 : w.heap.size + 1 < w3.heap.size := (by have h0 := hb3.size; have h1 : w2.drew.heap.size = w2.heap.size := rfl; omega); clear hb3) | (with_reducible refine (HY.out _).mono ?_; rintro e w4 ⟨rfl, hb4⟩; have HB4 := Lib.hid (bthen HB3.out hb4); clear hb4) | (with_reducible refine (HT.out _).mono ?_; rintro e w5 ⟨rfl, hb5⟩; have HB5 := Lib.hid (bthen HB4.out hb5); clear hb5) | (with_reducible refine (HO.out _).mono ?_; rintro e w6 ⟨bq, hbq, rfl, hro⟩; have HRO := Lib.hid (hro.after HB5.out); clear hro))
    all_goals go_wp2_with fail
    all_goals go_ret2
    all_goals exact HRO.out
set_option maxHeartbeats 2000000 in
set_option maxRecDepth 100000 in
theorem ref_ge_yet {a b : Ob} {B c : Nat} {w : World} (ha : At10 w B 0 a) (hb : At10 w B 10 b) (hn : (isNumB a && isNumB b) = true) (hq : ¬ (valI b ≤ valI a)) : Calls Tryd.prog 12 #[.string ⟨#[103, 101]⟩, .slice (some ⟨B, 0, none⟩) 2 c] w fun e w' => RefO w (cmpO (fun x y => decide (y ≤ x)) a b) e w' := by
    have e0 : cmpO (fun x y => decide (y ≤ x)) a b = okO 3 0 := by unfold cmpO truO; rw [hn]; simp [hq]
    rw [e0]
    clear e0
    rw [Bool.and_eq_true] at hn
    have hNa := refNum_at a
    have hNb := refNum_at b
    rw [hn.1] at hNa
    rw [hn.2] at hNb
    have h1 := hn.1
    have h2 := hn.2
    have HX := Lib.hid (fun W => refValue_at a W h1)
    have HY := Lib.hid (fun W => refValue_at b W h2)
    clear h1 h2 hn
    generalize valI a = x at *
    generalize valI b = y at *
    have hT : ∀ W, Calls Tryd.prog 20 #[.bool (decide (y ≤ x))] W fun e w' => e = .returned (mk 3 0).vl ∧ Below W.heap.size W w' := by
      intro W
      have h0 := refTruth_at false W
      rw [decide_eq_false hq]; exact h0
    have hO := fun W => refOne_at 3 0 W
    have HT := Lib.hid hT
    have HO := Lib.hid hO
    clear hT hO
    obtain ⟨a0, a1, a2, a3, a4, a5, a6, a7, a8, a9⟩ := ha
    obtain ⟨b0, b1, b2, b3, b4, b5, b6, b7, b8, b9⟩ := hb
    simp only [Nat.zero_add, Nat.reduceAdd] at *
    have hlt := World.block_lt_of_cell? w _ a0
    obtain ⟨ka, xa, ca, na, sa, ra, fa, la⟩ := a
    obtain ⟨kb, xb, cb, nb, sb, rb, fb, lb⟩ := b
    unfold mk Ob.vl at *
    simp only at *
    go_enter Tryd.func12, Tryd.ntmps12
    go_wp2_with fail
    refine (hNa _).mono ?_; rintro e w1 ⟨rfl, hb1⟩
    have p10 := rule hb1 (w.heap.size) (by simp <;> omega)
    have p11 := rule hb1 (w.heap.size + 1) (by simp <;> omega)
    have HB1 := Lib.hid (bthen (below2 _ _ _ ) hb1)
    have hz1 : w.heap.size + 1 < w1.heap.size := by have := hb1.size; simp at this; omega
    clear hb1
    go_wp2_with fail
    refine (hNb _).mono ?_; rintro e w2 ⟨rfl, hb2⟩
    have p20 := rule hb2 (w.heap.size) (by omega)
    have p21 := rule hb2 (w.heap.size + 1) (by omega)
    have HB2 := Lib.hid (bthen HB1.out hb2)
    have hz2 : w.heap.size + 1 < w2.heap.size := by have := hb2.size; omega
    clear hb2
    go_wp2_with fail
    go_region_with (first | (with_reducible refine (HX.out _).mono ?_; rintro e w3 ⟨rfl, hb3⟩; have p30 := ruleD hb3 (w.heap.size) (by omega); have p31 := ruleD hb3 (w.heap.size + 1) (by omega); have HB3 := Lib.hid (bthenD HB2.out hb3); have hz3 : w.heap.size + 1 < w3.heap.size := (by have h0 := hb3.size; have h1 : w2.drew.heap.size = w2.heap.size := rfl; omega); clear hb3) | (with_reducible refine (HY.out _).mono ?_; rintro e w4 ⟨rfl, hb4⟩; have HB4 := Lib.hid (bthen HB3.out hb4); clear hb4) | (with_reducible refine (HT.out _).mono ?_; rintro e w5 ⟨rfl, hb5⟩; have HB5 := Lib.hid (bthen HB4.out hb5); clear hb5) | (with_reducible refine (HO.out _).mono ?_; rintro e w6 ⟨bq, hbq, rfl, hro⟩; have HRO := Lib.hid (hro.after HB5.out); clear hro))
    all_goals go_wp2_with fail
    all_goals go_ret2
    all_goals exact HRO.out
theorem ref_ge {a b : Ob} {B c : Nat} {w : World} (ha : At10 w B 0 a) (hb : At10 w B 10 b) : Calls Tryd.prog 12 #[.string ⟨#[103, 101]⟩, .slice (some ⟨B, 0, none⟩) 2 c] w fun e w' => RefO w (cmpO (fun x y => decide (y ≤ x)) a b) e w' := by
  cases h : (isNumB a && isNumB b)
  · exact ref_ge_no ha hb h
  · by_cases hq : valI b ≤ valI a
    · exact ref_ge_yes ha hb h hq
    · exact ref_ge_yet ha hb h hq
end Ari
end Go.Proofs.YtgbpldfcahajeaaDoor
