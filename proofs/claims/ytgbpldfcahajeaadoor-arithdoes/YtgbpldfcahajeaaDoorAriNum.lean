/-
  ofNumbers at any two functions that are handed in (made by gennum.py).
-/
import Derived.Test.YtgbpldfcahajeaaDoorAriOps
namespace Go.Proofs.YtgbpldfcahajeaaDoor
open Go.RowKit
open Fx
namespace Ari
theorem ruleA {W w1 : World} {X : Obj} (hb : Below (W.alloc X).heap.size (W.alloc X) w1) (k : Nat) (hk : k < W.heap.size) : ∀ o, w1.cell? ⟨k, o, none⟩ = W.cell? ⟨k, o, none⟩ := fun o => (hb.cell (p := ⟨k, o, none⟩) (by simp; omega)).trans ((below1 W X).cell (p := ⟨k, o, none⟩) hk)
theorem ruleAF {W w1 : World} {X : Obj} (hb : Below (W.alloc X).heap.size (W.alloc X) w1) (k : Nat) (hk : k < W.heap.size) : ∀ o, w1.frozen? ⟨k, o, none⟩ = W.frozen? ⟨k, o, none⟩ := fun o => (hb.frozen (p := ⟨k, o, none⟩) (by simp; omega)).trans ((below1 W X).frozen (p := ⟨k, o, none⟩) hk)
set_option maxHeartbeats 2000000 in
set_option maxRecDepth 100000 in
theorem ofNumbers_any {f g : Nat} {F V E : Int → Int → Int} (hD : Op2 f F) (hC : Fun2 g V E) (a b : Ob) (w : World) : Calls Tryd.prog 52 #[a.val, b.val, .func (.func f) #[] #[], .func (.func g) #[] #[]] w fun e w' => e = .returned (numO F V E a b).val ∧ Below w.heap.size w w' := by
  have hB := both_int a b
  have hR := ofReals_any hC a b
  unfold numO
  cases h : (isIntB a && isIntB b)
  · rw [h] at hB
    clear h hC hD
    rw [if_neg (by simp)]
    generalize realsO V E a b = r at *
    obtain ⟨ka, xa, ca, na, sa, ra, fa, la⟩ := a
    obtain ⟨kb, xb, cb, nb, sb, rb, fb, lb⟩ := b
    unfold Ob.val Out.val at *
    simp only at *
    go_enter Tryd.func52, Tryd.ntmps52
    go_wp2_with fail
    refine (hB _).mono ?_; rintro e w1 ⟨rfl, hb1⟩
    have p10 := rule hb1 (w.heap.size) (by simp <;> omega)
    have p11 := rule hb1 (w.heap.size + 1) (by simp <;> omega)
    have p12 := rule hb1 (w.heap.size + 1 + 1) (by simp <;> omega)
    have q1 := ruleF hb1 (w.heap.size + 1 + 1) (by simp <;> omega)
    have HN1 := Lib.hid (show Nul w1 (w.heap.size + 1 + 1) from Nul.below (alloc_at (by simp)) hb1)
    have HB1 := Lib.hid (bthen (below3 _ _ _ _ ) hb1)
    have hz1 : w.heap.size + 1 + 1 < w1.heap.size := by have := hb1.size; simp at this; omega
    clear hb1
    go_wp2_with fail
    refine (hR _).mono ?_; rintro e w2 ⟨rfl, hb2⟩
    have p20 := rule hb2 (w.heap.size) (by omega)
    have p21 := rule hb2 (w.heap.size + 1) (by omega)
    have p22 := rule hb2 (w.heap.size + 1 + 1) (by omega)
    have q2 := ruleF hb2 (w.heap.size + 1 + 1) (by omega)
    have HN2 := Lib.hid (HN1.out.below hb2)
    have HB2 := Lib.hid (bthen HB1.out hb2)
    have hz2 : w.heap.size + 1 + 1 < w2.heap.size := by have := hb2.size; omega
    clear hb2
    go_wp2_with fail
    exact bodyPost_ret (results_ob2 Tryd.results52 _ _ (w.heap.size + 1 + 1) rfl rfl (put8 HN2.out _ _ _ _ _ _ _ _).blk) rfl ⟨rfl, below_put8 HB2.out (by omega) (put8 HN2.out _ _ _ _ _ _ _ _)⟩
  · rw [h] at hB
    rw [Bool.and_eq_true] at h
    have h1 := (fits_iff _).2 ((isInt_iff a).1 h.1).2
    have h2 := (fits_iff _).2 ((isInt_iff b).1 h.2).2
    have HC := Lib.hid (fun W => hD.2 a.n b.n W h1 h2)
    clear h h1 h2
    have hF : ∀ (args : Array Value) (w : World), (callFunc f args).run Tryd.prog w = .ok (.enter f args) w := hD.1
    clear hD hC
    generalize F a.n b.n = v at *
    have HW := Lib.hid (fun W => whole_any v W)
    have hI := fun W => isInt_any (mk 1 v) W
    have eI : isIntB (mk 1 v) = fits v := by simp [isIntB, mk]
    rw [eI] at hI
    clear eI
    cases hf : fits v
    · rw [if_neg (by simp)]
      rw [hf] at hI
      have HI := Lib.hid hI
      clear hf hI
      generalize realsO V E a b = r at *
      obtain ⟨ka, xa, ca, na, sa, ra, fa, la⟩ := a
      obtain ⟨kb, xb, cb, nb, sb, rb, fb, lb⟩ := b
      unfold Ob.val mk Out.val at *
      simp only at *
      go_enter Tryd.func52, Tryd.ntmps52
      go_wp2_with fail
      refine (hB _).mono ?_; rintro e w1 ⟨rfl, hb1⟩
      have p10 := rule hb1 (w.heap.size) (by simp <;> omega)
      have p11 := rule hb1 (w.heap.size + 1) (by simp <;> omega)
      have p12 := rule hb1 (w.heap.size + 1 + 1) (by simp <;> omega)
      have q1 := ruleF hb1 (w.heap.size + 1 + 1) (by simp <;> omega)
      have HN1 := Lib.hid (show Nul w1 (w.heap.size + 1 + 1) from Nul.below (alloc_at (by simp)) hb1)
      have HB1 := Lib.hid (bthen (below3 _ _ _ _ ) hb1)
      have hz1 : w.heap.size + 1 + 1 < w1.heap.size := by have := hb1.size; simp at this; omega
      clear hb1
      go_wp2_with fail
      refine (HC.out _).mono ?_; rintro e w2 ⟨rfl, hb2⟩
      have p20 := rule hb2 (w.heap.size) (by omega)
      have p21 := rule hb2 (w.heap.size + 1) (by omega)
      have p22 := rule hb2 (w.heap.size + 1 + 1) (by omega)
      have q2 := ruleF hb2 (w.heap.size + 1 + 1) (by omega)
      have HN2 := Lib.hid (HN1.out.below hb2)
      have HB2 := Lib.hid (bthen HB1.out hb2)
      have hz2 : w.heap.size + 1 + 1 < w2.heap.size := by have := hb2.size; omega
      clear hb2
      go_wp2_with fail
      refine (HW.out _).mono ?_; rintro e w3 ⟨rfl, hb3⟩
      have p30 := rule hb3 (w.heap.size) (by omega)
      have p31 := rule hb3 (w.heap.size + 1) (by omega)
      have p32 := rule hb3 (w.heap.size + 1 + 1) (by omega)
      have q3 := ruleF hb3 (w.heap.size + 1 + 1) (by omega)
      have HN3 := Lib.hid (HN2.out.below hb3)
      have HB3 := Lib.hid (bthen HB2.out hb3)
      have hz3 : w.heap.size + 1 + 1 < w3.heap.size := by have := hb3.size; omega
      clear hb3
      go_wp2_with fail
      refine (HI.out _).mono ?_; rintro e w4 ⟨rfl, hb4⟩
      have p40 := ruleA hb4 (w.heap.size) (by omega)
      have p41 := ruleA hb4 (w.heap.size + 1) (by omega)
      have p42 := ruleA hb4 (w.heap.size + 1 + 1) (by omega)
      have p43 := rule hb4 (w3.heap.size) (by simp <;> omega)
      have q4 := ruleAF hb4 (w.heap.size + 1 + 1) (by omega)
      have HN4 := Lib.hid ((HN3.out.below (below1 _ _)).below hb4)
      have HB4 := Lib.hid (bthen HB3.out (bthen (below1 _ _) hb4))
      have hz4 : w.heap.size + 1 + 1 < w4.heap.size := by have := hb4.size; simp at this; omega
      clear hb4
      go_wp2_with fail
      refine (hR _).mono ?_; rintro e w5 ⟨rfl, hb5⟩
      have p50 := rule hb5 (w.heap.size) (by omega)
      have p51 := rule hb5 (w.heap.size + 1) (by omega)
      have p52 := rule hb5 (w.heap.size + 1 + 1) (by omega)
      have q5 := ruleF hb5 (w.heap.size + 1 + 1) (by omega)
      have HN5 := Lib.hid (HN4.out.below hb5)
      have HB5 := Lib.hid (bthen HB4.out hb5)
      have hz5 : w.heap.size + 1 + 1 < w5.heap.size := by have := hb5.size; omega
      clear hb5
      go_wp2_with fail
      exact bodyPost_ret (results_ob2 Tryd.results52 _ _ (w.heap.size + 1 + 1) rfl rfl (put8 HN5.out _ _ _ _ _ _ _ _).blk) rfl ⟨rfl, below_put8 HB5.out (by omega) (put8 HN5.out _ _ _ _ _ _ _ _)⟩
    · rw [if_pos (by simp)]
      rw [hf] at hI
      have HI := Lib.hid hI
      clear hf hI hR
      unfold okO
      obtain ⟨ka, xa, ca, na, sa, ra, fa, la⟩ := a
      obtain ⟨kb, xb, cb, nb, sb, rb, fb, lb⟩ := b
      unfold Ob.val mk Out.val at *
      simp only at *
      go_enter Tryd.func52, Tryd.ntmps52
      go_wp2_with fail
      refine (hB _).mono ?_; rintro e w1 ⟨rfl, hb1⟩
      have p10 := rule hb1 (w.heap.size) (by simp <;> omega)
      have p11 := rule hb1 (w.heap.size + 1) (by simp <;> omega)
      have p12 := rule hb1 (w.heap.size + 1 + 1) (by simp <;> omega)
      have q1 := ruleF hb1 (w.heap.size + 1 + 1) (by simp <;> omega)
      have HN1 := Lib.hid (show Nul w1 (w.heap.size + 1 + 1) from Nul.below (alloc_at (by simp)) hb1)
      have HB1 := Lib.hid (bthen (below3 _ _ _ _ ) hb1)
      have hz1 : w.heap.size + 1 + 1 < w1.heap.size := by have := hb1.size; simp at this; omega
      clear hb1
      go_wp2_with fail
      refine (HC.out _).mono ?_; rintro e w2 ⟨rfl, hb2⟩
      have p20 := rule hb2 (w.heap.size) (by omega)
      have p21 := rule hb2 (w.heap.size + 1) (by omega)
      have p22 := rule hb2 (w.heap.size + 1 + 1) (by omega)
      have q2 := ruleF hb2 (w.heap.size + 1 + 1) (by omega)
      have HN2 := Lib.hid (HN1.out.below hb2)
      have HB2 := Lib.hid (bthen HB1.out hb2)
      have hz2 : w.heap.size + 1 + 1 < w2.heap.size := by have := hb2.size; omega
      clear hb2
      go_wp2_with fail
      refine (HW.out _).mono ?_; rintro e w3 ⟨rfl, hb3⟩
      have p30 := rule hb3 (w.heap.size) (by omega)
      have p31 := rule hb3 (w.heap.size + 1) (by omega)
      have p32 := rule hb3 (w.heap.size + 1 + 1) (by omega)
      have q3 := ruleF hb3 (w.heap.size + 1 + 1) (by omega)
      have HN3 := Lib.hid (HN2.out.below hb3)
      have HB3 := Lib.hid (bthen HB2.out hb3)
      have hz3 : w.heap.size + 1 + 1 < w3.heap.size := by have := hb3.size; omega
      clear hb3
      go_wp2_with fail
      refine (HI.out _).mono ?_; rintro e w4 ⟨rfl, hb4⟩
      have p40 := ruleA hb4 (w.heap.size) (by omega)
      have p41 := ruleA hb4 (w.heap.size + 1) (by omega)
      have p42 := ruleA hb4 (w.heap.size + 1 + 1) (by omega)
      have p43 := rule hb4 (w3.heap.size) (by simp <;> omega)
      have q4 := ruleAF hb4 (w.heap.size + 1 + 1) (by omega)
      have HN4 := Lib.hid ((HN3.out.below (below1 _ _)).below hb4)
      have HB4 := Lib.hid (bthen HB3.out (bthen (below1 _ _) hb4))
      have hz4 : w.heap.size + 1 + 1 < w4.heap.size := by have := hb4.size; simp at this; omega
      clear hb4
      go_wp2_with fail
      exact bodyPost_ret (results_ob2 Tryd.results52 _ _ (w.heap.size + 1 + 1) rfl rfl (put8 HN4.out _ _ _ _ _ _ _ _).blk) rfl ⟨rfl, below_put8 HB4.out (by omega) (put8 HN4.out _ _ _ _ _ _ _ _)⟩
end Ari
end Go.Proofs.YtgbpldfcahajeaaDoor
