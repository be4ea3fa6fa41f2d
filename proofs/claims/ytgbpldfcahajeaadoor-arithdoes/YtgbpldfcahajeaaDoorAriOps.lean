/-
  ofInts, ofReals, ofReal, ofNumbers, bitByBit at any function that is handed in.
-/
import Derived.Test.YtgbpldfcahajeaaDoorAriMade
import Derived.Test.YtgbpldfcahajeaaDoorAriCmp
namespace Go.Proofs.YtgbpldfcahajeaaDoor
open Go.RowKit
open Fx
namespace Ari
theorem ruleDF {W w1 : World} (hb : Below W.drew.heap.size W.drew w1) (k : Nat) (hk : k < W.heap.size) : ∀ o, w1.frozen? ⟨k, o, none⟩ = W.frozen? ⟨k, o, none⟩ := fun o => hb.frozen (p := ⟨k, o, none⟩) hk
theorem Nul.belowD {w w' : World} {b : Nat} (h : Nul w b) (hb : Below w.drew.heap.size w.drew w') : Nul w' b := (hb.block _ (Array.getElem?_eq_some_iff.1 h).1).trans h
theorem below3 (w : World) (o p q : Obj) : Below w.heap.size w (((w.alloc o).alloc p).alloc q) := bthen (below2 w o p) (below1 _ q)
/-- what a function of two numbers answers: a number and an error -/
def Fun2 (g : Nat) (V E : Int → Int → Int) : Prop := Ent g ∧ ∀ (x y : Int) (w : World), fits x = true → fits y = true → Calls Tryd.prog g #[.int .i64 x, .int .i64 y] w fun e w' => e = .returned (.tuple #[.int .i64 (V x y), .int .i64 (E x y)]) ∧ Below w.heap.size w w'
def Fun1 (g : Nat) (V E : Int → Int) : Prop := Ent g ∧ ∀ (x : Int) (w : World), fits x = true → Calls Tryd.prog g #[.int .i64 x] w fun e w' => e = .returned (.tuple #[.int .i64 (V x), .int .i64 (E x)]) ∧ Below w.heap.size w w'
def Op2 (g : Nat) (F : Int → Int → Int) : Prop := Ent g ∧ ∀ (x y : Int) (w : World), fits x = true → fits y = true → Calls Tryd.prog g #[.int .i64 x, .int .i64 y] w fun e w' => e = .returned (.int .i64 (F x y)) ∧ Below w.heap.size w w'
def realsO (V E : Int → Int → Int) (a b : Ob) : Out := if (isNumB a && isNumB b) = true then (if asE a = 0 then (if asE b = 0 then madeO 2 (V (asV a) (asV b)) (E (asV a) (asV b)) else noO (asE b)) else noO (asE a)) else noO 16
def realO (V E : Int → Int) (a : Ob) : Out := if asE a = 0 then madeO 2 (V (asV a)) (E (asV a)) else noO (asE a)
def intsO (V E : Int → Int → Int) (a b : Ob) : Out := if (isIntB a && isIntB b) = true then madeO 1 (V a.n b.n) (E a.n b.n) else noO 16
def numO (F V E : Int → Int → Int) (a b : Ob) : Out := if (isIntB a && isIntB b) = true ∧ fits (F a.n b.n) = true then okO 1 (F a.n b.n) else realsO V E a b
def bitO (F : Int → Int → Int) (a b : Ob) : Out := if (isTruB a && isTruB b) = true ∨ (isIntB a && isIntB b) = true then okO a.kind (F a.n b.n) else noO 16
theorem asE_num {o : Ob} (h : asE o = 0) : isNumB o = true := by
  unfold asE at h
  cases hn : isNumB o
  · rw [hn] at h; simp at h
  · rfl
theorem asV_fits {o : Ob} (h : asE o = 0) : fits (asV o) = true := by
  have hn := asE_num h
  unfold asE at h
  unfold asV
  rw [if_pos hn] at h ⊢
  by_cases hk : o.kind = 1
  · rw [if_pos hk] at *
    unfold frE frV at *
    by_cases hc : (decide (-32768 ≤ o.n) && decide (o.n ≤ 32767)) = true
    · rw [if_pos hc]
      simp at hc
      rw [fits_iff]; omega
    · rw [if_neg hc] at h; cases h
  · rw [if_neg hk]
    exact ((isNum_iff o).1 hn).2 |> (fits_iff o.n).2
set_option maxHeartbeats 2000000 in
set_option maxRecDepth 100000 in
theorem ofInts_any {g : Nat} {V E : Int → Int → Int} (hC : Fun2 g V E) (a b : Ob) (w : World) : Calls Tryd.prog 61 #[a.val, b.val, .func (.func g) #[] #[]] w fun e w' => e = .returned (intsO V E a b).val ∧ Below w.heap.size w w' := by
  have hB := both_int a b
  unfold intsO
  cases h : (isIntB a && isIntB b)
  · rw [h] at hB
    clear h
    simp only [Bool.false_eq_true, if_false]
    unfold noO
    obtain ⟨ka, xa, ca, na, sa, ra, fa, la⟩ := a
    obtain ⟨kb, xb, cb, nb, sb, rb, fb, lb⟩ := b
    unfold Ob.val Out.val at *
    simp only at *
    go_enter Tryd.func61, Tryd.ntmps61
    go_wp2_with fail
    refine (hB _).mono ?_; rintro e w1 ⟨rfl, hb1⟩
    have p10 := rule hb1 (w.heap.size) (by simp <;> omega)
    have p11 := rule hb1 (w.heap.size + 1) (by simp <;> omega)
    have p12 := rule hb1 (w.heap.size + 1 + 1) (by simp <;> omega)
    have q1 := ruleF hb1 (w.heap.size + 1 + 1) (by simp <;> omega)
    have HN1 := Lib.hid (show Nul w1 (w.heap.size + 1 + 1) from Nul.below (alloc_at (by simp)) hb1)
    have HB1 := Lib.hid (bthen (below3 _ _ _ _ ) hb1)
    have hz1 : w.heap.size + 1 + 1 < w1.heap.size := by have := hb1.size; simp at this; omega
    clear hb1
    go_wp2_with fail
    exact bodyPost_ret (results_ob2 Tryd.results61 _ _ (w.heap.size + 1 + 1) rfl rfl (put8 HN1.out _ _ _ _ _ _ _ _).blk) rfl ⟨rfl, below_put8 HB1.out (by omega) (put8 HN1.out _ _ _ _ _ _ _ _)⟩
  · rw [h] at hB
    rw [Bool.and_eq_true] at h
    simp only [if_true]
    have h1 := (fits_iff _).2 ((isInt_iff a).1 h.1).2
    have h2 := (fits_iff _).2 ((isInt_iff b).1 h.2).2
    have HC := Lib.hid (fun W => hC.2 a.n b.n W h1 h2)
    have hE : ∀ (args : Array Value) (w : World), (callFunc g args).run Tryd.prog w = .ok (.enter g args) w := hC.1
    have HM := Lib.hid (fun W => made_any 1 (V a.n b.n) (E a.n b.n) W)
    clear h h1 h2 hC
    generalize V a.n b.n = v at *
    generalize E a.n b.n = u at *
    generalize madeO 1 v u = r at *
    obtain ⟨ka, xa, ca, na, sa, ra, fa, la⟩ := a
    obtain ⟨kb, xb, cb, nb, sb, rb, fb, lb⟩ := b
    unfold Ob.val Out.val at *
    simp only at *
    go_enter Tryd.func61, Tryd.ntmps61
    go_wp2_with fail
    refine (hB _).mono ?_; rintro e w1 ⟨rfl, hb1⟩
    have p10 := rule hb1 (w.heap.size) (by simp <;> omega)
    have p11 := rule hb1 (w.heap.size + 1) (by simp <;> omega)
    have p12 := rule hb1 (w.heap.size + 1 + 1) (by simp <;> omega)
    have q1 := ruleF hb1 (w.heap.size + 1 + 1) (by simp <;> omega)
    have HN1 := Lib.hid (show Nul w1 (w.heap.size + 1 + 1) from Nul.below (alloc_at (by simp)) hb1)
    have HB1 := Lib.hid (bthen (below3 _ _ _ _ ) hb1)
    have hz1 : w.heap.size + 1 + 1 < w1.heap.size := by have := hb1.size; simp at this; omega
    clear hb1
    go_wp2_with fail
    refine (HC.out _).mono ?_; rintro e w2 ⟨rfl, hb2⟩
    have p20 := rule hb2 (w.heap.size) (by omega)
    have p21 := rule hb2 (w.heap.size + 1) (by omega)
    have p22 := rule hb2 (w.heap.size + 1 + 1) (by omega)
    have q2 := ruleF hb2 (w.heap.size + 1 + 1) (by omega)
    have HN2 := Lib.hid (HN1.out.below hb2)
    have HB2 := Lib.hid (bthen HB1.out hb2)
    have hz2 : w.heap.size + 1 + 1 < w2.heap.size := by have := hb2.size; omega
    clear hb2
    go_wp2_with fail
    refine (HM.out _).mono ?_; rintro e w3 ⟨rfl, hb3⟩
    have p30 := rule hb3 (w.heap.size) (by omega)
    have p31 := rule hb3 (w.heap.size + 1) (by omega)
    have p32 := rule hb3 (w.heap.size + 1 + 1) (by omega)
    have q3 := ruleF hb3 (w.heap.size + 1 + 1) (by omega)
    have HN3 := Lib.hid (HN2.out.below hb3)
    have HB3 := Lib.hid (bthen HB2.out hb3)
    have hz3 : w.heap.size + 1 + 1 < w3.heap.size := by have := hb3.size; omega
    clear hb3
    go_wp2_with fail
    exact bodyPost_ret (results_ob2 Tryd.results61 _ _ (w.heap.size + 1 + 1) rfl rfl (put8 HN3.out _ _ _ _ _ _ _ _).blk) rfl ⟨rfl, below_put8 HB3.out (by omega) (put8 HN3.out _ _ _ _ _ _ _ _)⟩
theorem tru_fits {o : Ob} (h : isTruB o = true) : fits o.n = true := by
  rw [isTru_iff] at h; rw [fits_iff]; omega
set_option maxHeartbeats 2000000 in
set_option maxRecDepth 100000 in
theorem bitByBit_any {g : Nat} {F : Int → Int → Int} (hC : Op2 g F) (a b : Ob) (w : World) : Calls Tryd.prog 64 #[a.val, b.val, .func (.func g) #[] #[]] w fun e w' => e = .returned (bitO F a b).val ∧ Below w.heap.size w w' := by
  have hT := both_tru a b
  have hB := both_int a b
  unfold bitO
  cases ht : (isTruB a && isTruB b)
  · rw [ht] at hT
    cases h : (isIntB a && isIntB b)
    · rw [h] at hB
      clear h ht
      simp only [Bool.false_eq_true, or_self, if_false]
      unfold noO
      obtain ⟨ka, xa, ca, na, sa, ra, fa, la⟩ := a
      obtain ⟨kb, xb, cb, nb, sb, rb, fb, lb⟩ := b
      unfold Ob.val Out.val at *
      simp only at *
      go_enter Tryd.func64, Tryd.ntmps64
      go_wp2_with fail
      refine (hT _).mono ?_; rintro e w1 ⟨rfl, hb1⟩
      have p10 := rule hb1 (w.heap.size) (by simp <;> omega)
      have p11 := rule hb1 (w.heap.size + 1) (by simp <;> omega)
      have p12 := rule hb1 (w.heap.size + 1 + 1) (by simp <;> omega)
      have q1 := ruleF hb1 (w.heap.size + 1 + 1) (by simp <;> omega)
      have HN1 := Lib.hid (show Nul w1 (w.heap.size + 1 + 1) from Nul.below (alloc_at (by simp)) hb1)
      have HB1 := Lib.hid (bthen (below3 _ _ _ _ ) hb1)
      have hz1 : w.heap.size + 1 + 1 < w1.heap.size := by have := hb1.size; simp at this; omega
      clear hb1
      go_wp2_with fail
      refine (hB _).mono ?_; rintro e w2 ⟨rfl, hb2⟩
      have p20 := rule hb2 (w.heap.size) (by omega)
      have p21 := rule hb2 (w.heap.size + 1) (by omega)
      have p22 := rule hb2 (w.heap.size + 1 + 1) (by omega)
      have q2 := ruleF hb2 (w.heap.size + 1 + 1) (by omega)
      have HN2 := Lib.hid (HN1.out.below hb2)
      have HB2 := Lib.hid (bthen HB1.out hb2)
      have hz2 : w.heap.size + 1 + 1 < w2.heap.size := by have := hb2.size; omega
      clear hb2
      go_wp2_with fail
      exact bodyPost_ret (results_ob2 Tryd.results64 _ _ (w.heap.size + 1 + 1) rfl rfl (put8 HN2.out _ _ _ _ _ _ _ _).blk) rfl ⟨rfl, below_put8 HB2.out (by omega) (put8 HN2.out _ _ _ _ _ _ _ _)⟩
    · rw [h] at hB
      rw [Bool.and_eq_true] at h
      simp only [Bool.false_eq_true, false_or, if_true]
      have h1 := (fits_iff _).2 ((isInt_iff a).1 h.1).2
      have h2 := (fits_iff _).2 ((isInt_iff b).1 h.2).2
      have HC := Lib.hid (fun W => hC.2 a.n b.n W h1 h2)
      have hE : ∀ (args : Array Value) (w : World), (callFunc g args).run Tryd.prog w = .ok (.enter g args) w := hC.1
      have HM := Lib.hid (fun W => made_any a.kind (F a.n b.n) 0 W)
      have e0 : madeO a.kind (F a.n b.n) 0 = okO a.kind (F a.n b.n) := rfl
      rw [e0] at HM
      clear e0 h1 h2 hC
      generalize F a.n b.n = v at *
      clear h ht
      unfold okO
      obtain ⟨ka, xa, ca, na, sa, ra, fa, la⟩ := a
      obtain ⟨kb, xb, cb, nb, sb, rb, fb, lb⟩ := b
      unfold Ob.val Out.val at *
      simp only at *
      go_enter Tryd.func64, Tryd.ntmps64
      go_wp2_with fail
      refine (hT _).mono ?_; rintro e w1 ⟨rfl, hb1⟩
      have p10 := rule hb1 (w.heap.size) (by simp <;> omega)
      have p11 := rule hb1 (w.heap.size + 1) (by simp <;> omega)
      have p12 := rule hb1 (w.heap.size + 1 + 1) (by simp <;> omega)
      have q1 := ruleF hb1 (w.heap.size + 1 + 1) (by simp <;> omega)
      have HN1 := Lib.hid (show Nul w1 (w.heap.size + 1 + 1) from Nul.below (alloc_at (by simp)) hb1)
      have HB1 := Lib.hid (bthen (below3 _ _ _ _ ) hb1)
      have hz1 : w.heap.size + 1 + 1 < w1.heap.size := by have := hb1.size; simp at this; omega
      clear hb1
      go_wp2_with fail
      refine (hB _).mono ?_; rintro e w2 ⟨rfl, hb2⟩
      have p20 := rule hb2 (w.heap.size) (by omega)
      have p21 := rule hb2 (w.heap.size + 1) (by omega)
      have p22 := rule hb2 (w.heap.size + 1 + 1) (by omega)
      have q2 := ruleF hb2 (w.heap.size + 1 + 1) (by omega)
      have HN2 := Lib.hid (HN1.out.below hb2)
      have HB2 := Lib.hid (bthen HB1.out hb2)
      have hz2 : w.heap.size + 1 + 1 < w2.heap.size := by have := hb2.size; omega
      clear hb2
      go_wp2_with fail
      go_region_with (first | (with_reducible refine (HC.out _).mono ?_; rintro e w3 ⟨rfl, hb3⟩; have p30 := ruleD hb3 (w.heap.size) (by omega); have p31 := ruleD hb3 (w.heap.size + 1) (by omega); have p32 := ruleD hb3 (w.heap.size + 1 + 1) (by omega); have q3 := ruleDF hb3 (w.heap.size + 1 + 1) (by omega); have HN3 := Lib.hid (HN2.out.belowD hb3); have HB3 := Lib.hid (bthenD HB2.out hb3); have hz3 : w.heap.size + 1 + 1 < w3.heap.size := (by have h0 := hb3.size; have h1 : w2.drew.heap.size = w2.heap.size := rfl; omega); clear hb3) | (with_reducible refine (HM.out _).mono ?_; rintro e w4 ⟨rfl, hb4⟩; have p40 := rule hb4 (w.heap.size) (by omega); have p41 := rule hb4 (w.heap.size + 1) (by omega); have p42 := rule hb4 (w.heap.size + 1 + 1) (by omega); have q4 := ruleF hb4 (w.heap.size + 1 + 1) (by omega); have HN4 := Lib.hid (HN3.out.below hb4); have HB4 := Lib.hid (bthen HB3.out hb4); have hz4 : w.heap.size + 1 + 1 < w4.heap.size := (by have h0 := hb4.size; omega); clear hb4))
      all_goals go_wp2_with fail
      all_goals exact bodyPost_ret (results_ob2 Tryd.results64 _ _ (w.heap.size + 1 + 1) rfl rfl (put8 HN4.out _ _ _ _ _ _ _ _).blk) rfl ⟨rfl, below_put8 HB4.out (by omega) (put8 HN4.out _ _ _ _ _ _ _ _)⟩
  · rw [ht] at hT
    rw [Bool.and_eq_true] at ht
    simp only [true_or, if_true]
    have h1 := tru_fits ht.1
    have h2 := tru_fits ht.2
    have HC := Lib.hid (fun W => hC.2 a.n b.n W h1 h2)
    have hE : ∀ (args : Array Value) (w : World), (callFunc g args).run Tryd.prog w = .ok (.enter g args) w := hC.1
    have HM := Lib.hid (fun W => made_any a.kind (F a.n b.n) 0 W)
    have e0 : madeO a.kind (F a.n b.n) 0 = okO a.kind (F a.n b.n) := rfl
    rw [e0] at HM
    clear e0 h1 h2 hC
    generalize F a.n b.n = v at *
    clear ht hB
    unfold okO
    obtain ⟨ka, xa, ca, na, sa, ra, fa, la⟩ := a
    obtain ⟨kb, xb, cb, nb, sb, rb, fb, lb⟩ := b
    unfold Ob.val Out.val at *
    simp only at *
    go_enter Tryd.func64, Tryd.ntmps64
    go_wp2_with fail
    refine (hT _).mono ?_; rintro e w1 ⟨rfl, hb1⟩
    have p10 := rule hb1 (w.heap.size) (by simp <;> omega)
    have p11 := rule hb1 (w.heap.size + 1) (by simp <;> omega)
    have p12 := rule hb1 (w.heap.size + 1 + 1) (by simp <;> omega)
    have q1 := ruleF hb1 (w.heap.size + 1 + 1) (by simp <;> omega)
    have HN1 := Lib.hid (show Nul w1 (w.heap.size + 1 + 1) from Nul.below (alloc_at (by simp)) hb1)
    have HB1 := Lib.hid (bthen (below3 _ _ _ _ ) hb1)
    have hz1 : w.heap.size + 1 + 1 < w1.heap.size := by have := hb1.size; simp at this; omega
    clear hb1
    go_wp2_with fail
    go_region_with (first | (with_reducible refine (HC.out _).mono ?_; rintro e w2 ⟨rfl, hb2⟩; have p20 := ruleD hb2 (w.heap.size) (by omega); have p21 := ruleD hb2 (w.heap.size + 1) (by omega); have p22 := ruleD hb2 (w.heap.size + 1 + 1) (by omega); have q2 := ruleDF hb2 (w.heap.size + 1 + 1) (by omega); have HN2 := Lib.hid (HN1.out.belowD hb2); have HB2 := Lib.hid (bthenD HB1.out hb2); have hz2 : w.heap.size + 1 + 1 < w2.heap.size := (by have h0 := hb2.size; have h1 : w1.drew.heap.size = w1.heap.size := rfl; omega); clear hb2) | (with_reducible refine (HM.out _).mono ?_; rintro e w3 ⟨rfl, hb3⟩; have p30 := rule hb3 (w.heap.size) (by omega); have p31 := rule hb3 (w.heap.size + 1) (by omega); have p32 := rule hb3 (w.heap.size + 1 + 1) (by omega); have q3 := ruleF hb3 (w.heap.size + 1 + 1) (by omega); have HN3 := Lib.hid (HN2.out.below hb3); have HB3 := Lib.hid (bthen HB2.out hb3); have hz3 : w.heap.size + 1 + 1 < w3.heap.size := (by have h0 := hb3.size; omega); clear hb3))
    all_goals go_wp2_with fail
    all_goals exact bodyPost_ret (results_ob2 Tryd.results64 _ _ (w.heap.size + 1 + 1) rfl rfl (put8 HN3.out _ _ _ _ _ _ _ _).blk) rfl ⟨rfl, below_put8 HB3.out (by omega) (put8 HN3.out _ _ _ _ _ _ _ _)⟩
set_option maxHeartbeats 2000000 in
set_option maxRecDepth 100000 in
theorem ofReals_any {g : Nat} {V E : Int → Int → Int} (hC : Fun2 g V E) (a b : Ob) (w : World) : Calls Tryd.prog 59 #[a.val, b.val, .func (.func g) #[] #[]] w fun e w' => e = .returned (realsO V E a b).val ∧ Below w.heap.size w w' := by
  have hB := both_num a b
  have hX := asReal_any a
  have hY := asReal_any b
  unfold realsO
  cases h : (isNumB a && isNumB b)
  · rw [h] at hB
    clear h hX hY
    simp only [Bool.false_eq_true, if_false]
    unfold noO
    obtain ⟨ka, xa, ca, na, sa, ra, fa, la⟩ := a
    obtain ⟨kb, xb, cb, nb, sb, rb, fb, lb⟩ := b
    unfold Ob.val Out.val at *
    simp only at *
    go_enter Tryd.func59, Tryd.ntmps59
    go_wp2_with fail
    refine (hB _).mono ?_; rintro e w1 ⟨rfl, hb1⟩
    have p10 := rule hb1 (w.heap.size) (by simp <;> omega)
    have p11 := rule hb1 (w.heap.size + 1) (by simp <;> omega)
    have p12 := rule hb1 (w.heap.size + 1 + 1) (by simp <;> omega)
    have q1 := ruleF hb1 (w.heap.size + 1 + 1) (by simp <;> omega)
    have HN1 := Lib.hid (show Nul w1 (w.heap.size + 1 + 1) from Nul.below (alloc_at (by simp)) hb1)
    have HB1 := Lib.hid (bthen (below3 _ _ _ _ ) hb1)
    have hz1 : w.heap.size + 1 + 1 < w1.heap.size := by have := hb1.size; simp at this; omega
    clear hb1
    go_wp2_with fail
    exact bodyPost_ret (results_ob2 Tryd.results59 _ _ (w.heap.size + 1 + 1) rfl rfl (put8 HN1.out _ _ _ _ _ _ _ _).blk) rfl ⟨rfl, below_put8 HB1.out (by omega) (put8 HN1.out _ _ _ _ _ _ _ _)⟩
  · rw [h] at hB
    simp only [if_true]
    clear h
    by_cases ha : asE a = 0
    · rw [if_pos ha]
      have fa := asV_fits ha
      rw [ha] at hX
      by_cases hb : asE b = 0
      · rw [if_pos hb]
        have fb := asV_fits hb
        rw [hb] at hY
        have HC := Lib.hid (fun W => hC.2 (asV a) (asV b) W fa fb)
        have hE : ∀ (args : Array Value) (w : World), (callFunc g args).run Tryd.prog w = .ok (.enter g args) w := hC.1
        clear ha hb fa fb hC
        generalize asV a = x at *
        generalize asV b = y at *
        have HM := Lib.hid (fun W => made_any 2 (V x y) (E x y) W)
        generalize V x y = v at *
        generalize E x y = u at *
        generalize madeO 2 v u = r at *
        obtain ⟨ka, xa, ca, na, sa, ra, fa, la⟩ := a
        obtain ⟨kb, xb, cb, nb, sb, rb, fb, lb⟩ := b
        unfold Ob.val Out.val at *
        simp only at *
        go_enter Tryd.func59, Tryd.ntmps59
        go_wp2_with fail
        refine (hB _).mono ?_; rintro e w1 ⟨rfl, hb1⟩
        have p10 := rule hb1 (w.heap.size) (by simp <;> omega)
        have p11 := rule hb1 (w.heap.size + 1) (by simp <;> omega)
        have p12 := rule hb1 (w.heap.size + 1 + 1) (by simp <;> omega)
        have q1 := ruleF hb1 (w.heap.size + 1 + 1) (by simp <;> omega)
        have HN1 := Lib.hid (show Nul w1 (w.heap.size + 1 + 1) from Nul.below (alloc_at (by simp)) hb1)
        have HB1 := Lib.hid (bthen (below3 _ _ _ _ ) hb1)
        have hz1 : w.heap.size + 1 + 1 < w1.heap.size := by have := hb1.size; simp at this; omega
        clear hb1
        go_wp2_with fail
        refine (hX _).mono ?_; rintro e w2 ⟨rfl, hb2⟩
        have p20 := rule hb2 (w.heap.size) (by omega)
        have p21 := rule hb2 (w.heap.size + 1) (by omega)
        have p22 := rule hb2 (w.heap.size + 1 + 1) (by omega)
        have q2 := ruleF hb2 (w.heap.size + 1 + 1) (by omega)
        have HN2 := Lib.hid (HN1.out.below hb2)
        have HB2 := Lib.hid (bthen HB1.out hb2)
        have hz2 : w.heap.size + 1 + 1 < w2.heap.size := by have := hb2.size; omega
        clear hb2
        go_wp2_with fail
        refine (hY _).mono ?_; rintro e w3 ⟨rfl, hb3⟩
        have p30 := rule hb3 (w.heap.size) (by omega)
        have p31 := rule hb3 (w.heap.size + 1) (by omega)
        have p32 := rule hb3 (w.heap.size + 1 + 1) (by omega)
        have q3 := ruleF hb3 (w.heap.size + 1 + 1) (by omega)
        have HN3 := Lib.hid (HN2.out.below hb3)
        have HB3 := Lib.hid (bthen HB2.out hb3)
        have hz3 : w.heap.size + 1 + 1 < w3.heap.size := by have := hb3.size; omega
        clear hb3
        go_wp2_with fail
        refine (HC.out _).mono ?_; rintro e w4 ⟨rfl, hb4⟩
        have p40 := rule hb4 (w.heap.size) (by omega)
        have p41 := rule hb4 (w.heap.size + 1) (by omega)
        have p42 := rule hb4 (w.heap.size + 1 + 1) (by omega)
        have q4 := ruleF hb4 (w.heap.size + 1 + 1) (by omega)
        have HN4 := Lib.hid (HN3.out.below hb4)
        have HB4 := Lib.hid (bthen HB3.out hb4)
        have hz4 : w.heap.size + 1 + 1 < w4.heap.size := by have := hb4.size; omega
        clear hb4
        go_wp2_with fail
        refine (HM.out _).mono ?_; rintro e w5 ⟨rfl, hb5⟩
        have p50 := rule hb5 (w.heap.size) (by omega)
        have p51 := rule hb5 (w.heap.size + 1) (by omega)
        have p52 := rule hb5 (w.heap.size + 1 + 1) (by omega)
        have q5 := ruleF hb5 (w.heap.size + 1 + 1) (by omega)
        have HN5 := Lib.hid (HN4.out.below hb5)
        have HB5 := Lib.hid (bthen HB4.out hb5)
        have hz5 : w.heap.size + 1 + 1 < w5.heap.size := by have := hb5.size; omega
        clear hb5
        go_wp2_with fail
        exact bodyPost_ret (results_ob2 Tryd.results59 _ _ (w.heap.size + 1 + 1) rfl rfl (put8 HN5.out _ _ _ _ _ _ _ _).blk) rfl ⟨rfl, below_put8 HB5.out (by omega) (put8 HN5.out _ _ _ _ _ _ _ _)⟩
      · rw [if_neg hb]
        have hb' : (asE b == 0) = false := by simpa using hb
        clear ha hb fa hC
        generalize asV a = x at *
        generalize asV b = y at *
        generalize asE b = u at *
        unfold noO
        obtain ⟨ka, xa, ca, na, sa, ra, fa, la⟩ := a
        obtain ⟨kb, xb, cb, nb, sb, rb, fb, lb⟩ := b
        unfold Ob.val Out.val at *
        simp only at *
        go_enter Tryd.func59, Tryd.ntmps59
        go_wp2_with fail
        refine (hB _).mono ?_; rintro e w1 ⟨rfl, hb1⟩
        have p10 := rule hb1 (w.heap.size) (by simp <;> omega)
        have p11 := rule hb1 (w.heap.size + 1) (by simp <;> omega)
        have p12 := rule hb1 (w.heap.size + 1 + 1) (by simp <;> omega)
        have q1 := ruleF hb1 (w.heap.size + 1 + 1) (by simp <;> omega)
        have HN1 := Lib.hid (show Nul w1 (w.heap.size + 1 + 1) from Nul.below (alloc_at (by simp)) hb1)
        have HB1 := Lib.hid (bthen (below3 _ _ _ _ ) hb1)
        have hz1 : w.heap.size + 1 + 1 < w1.heap.size := by have := hb1.size; simp at this; omega
        clear hb1
        go_wp2_with fail
        refine (hX _).mono ?_; rintro e w2 ⟨rfl, hb2⟩
        have p20 := rule hb2 (w.heap.size) (by omega)
        have p21 := rule hb2 (w.heap.size + 1) (by omega)
        have p22 := rule hb2 (w.heap.size + 1 + 1) (by omega)
        have q2 := ruleF hb2 (w.heap.size + 1 + 1) (by omega)
        have HN2 := Lib.hid (HN1.out.below hb2)
        have HB2 := Lib.hid (bthen HB1.out hb2)
        have hz2 : w.heap.size + 1 + 1 < w2.heap.size := by have := hb2.size; omega
        clear hb2
        go_wp2_with fail
        refine (hY _).mono ?_; rintro e w3 ⟨rfl, hb3⟩
        have p30 := rule hb3 (w.heap.size) (by omega)
        have p31 := rule hb3 (w.heap.size + 1) (by omega)
        have p32 := rule hb3 (w.heap.size + 1 + 1) (by omega)
        have q3 := ruleF hb3 (w.heap.size + 1 + 1) (by omega)
        have HN3 := Lib.hid (HN2.out.below hb3)
        have HB3 := Lib.hid (bthen HB2.out hb3)
        have hz3 : w.heap.size + 1 + 1 < w3.heap.size := by have := hb3.size; omega
        clear hb3
        go_wp2_with fail
        exact bodyPost_ret (results_ob2 Tryd.results59 _ _ (w.heap.size + 1 + 1) rfl rfl (put8 HN3.out _ _ _ _ _ _ _ _).blk) rfl ⟨rfl, below_put8 HB3.out (by omega) (put8 HN3.out _ _ _ _ _ _ _ _)⟩
    · rw [if_neg ha]
      have ha' : (asE a == 0) = false := by simpa using ha
      clear ha hC hY
      generalize asV a = x at *
      generalize asE a = u at *
      unfold noO
      obtain ⟨ka, xa, ca, na, sa, ra, fa, la⟩ := a
      obtain ⟨kb, xb, cb, nb, sb, rb, fb, lb⟩ := b
      unfold Ob.val Out.val at *
      simp only at *
      go_enter Tryd.func59, Tryd.ntmps59
      go_wp2_with fail
      refine (hB _).mono ?_; rintro e w1 ⟨rfl, hb1⟩
      have p10 := rule hb1 (w.heap.size) (by simp <;> omega)
      have p11 := rule hb1 (w.heap.size + 1) (by simp <;> omega)
      have p12 := rule hb1 (w.heap.size + 1 + 1) (by simp <;> omega)
      have q1 := ruleF hb1 (w.heap.size + 1 + 1) (by simp <;> omega)
      have HN1 := Lib.hid (show Nul w1 (w.heap.size + 1 + 1) from Nul.below (alloc_at (by simp)) hb1)
      have HB1 := Lib.hid (bthen (below3 _ _ _ _ ) hb1)
      have hz1 : w.heap.size + 1 + 1 < w1.heap.size := by have := hb1.size; simp at this; omega
      clear hb1
      go_wp2_with fail
      refine (hX _).mono ?_; rintro e w2 ⟨rfl, hb2⟩
      have p20 := rule hb2 (w.heap.size) (by omega)
      have p21 := rule hb2 (w.heap.size + 1) (by omega)
      have p22 := rule hb2 (w.heap.size + 1 + 1) (by omega)
      have q2 := ruleF hb2 (w.heap.size + 1 + 1) (by omega)
      have HN2 := Lib.hid (HN1.out.below hb2)
      have HB2 := Lib.hid (bthen HB1.out hb2)
      have hz2 : w.heap.size + 1 + 1 < w2.heap.size := by have := hb2.size; omega
      clear hb2
      go_wp2_with fail
      exact bodyPost_ret (results_ob2 Tryd.results59 _ _ (w.heap.size + 1 + 1) rfl rfl (put8 HN2.out _ _ _ _ _ _ _ _).blk) rfl ⟨rfl, below_put8 HB2.out (by omega) (put8 HN2.out _ _ _ _ _ _ _ _)⟩
set_option maxHeartbeats 2000000 in
set_option maxRecDepth 100000 in
theorem ofReal_any {g : Nat} {V E : Int → Int} (hC : Fun1 g V E) (a : Ob) (w : World) : Calls Tryd.prog 47 #[a.val, .func (.func g) #[] #[]] w fun e w' => e = .returned (realO V E a).val ∧ Below w.heap.size w w' := by
  have hX := asReal_any a
  unfold realO
  by_cases ha : asE a = 0
  · rw [if_pos ha]
    have fa := asV_fits ha
    rw [ha] at hX
    have HC := Lib.hid (fun W => hC.2 (asV a) W fa)
    have hE : ∀ (args : Array Value) (w : World), (callFunc g args).run Tryd.prog w = .ok (.enter g args) w := hC.1
    clear ha fa hC
    generalize asV a = x at *
    have HM := Lib.hid (fun W => made_any 2 (V x) (E x) W)
    generalize V x = v at *
    generalize E x = u at *
    generalize madeO 2 v u = r at *
    obtain ⟨ka, xa, ca, na, sa, ra, fa, la⟩ := a
    unfold Ob.val Out.val at *
    simp only at *
    go_enter Tryd.func47, Tryd.ntmps47
    go_wp2_with fail
    refine (hX _).mono ?_; rintro e w1 ⟨rfl, hb1⟩
    have p10 := rule hb1 (w.heap.size) (by simp <;> omega)
    have p11 := rule hb1 (w.heap.size + 1) (by simp <;> omega)
    have q1 := ruleF hb1 (w.heap.size + 1) (by simp <;> omega)
    have HN1 := Lib.hid (show Nul w1 (w.heap.size + 1) from Nul.below (alloc_at (by simp)) hb1)
    have HB1 := Lib.hid (bthen (below2 _ _ _ ) hb1)
    have hz1 : w.heap.size + 1 < w1.heap.size := by have := hb1.size; simp at this; omega
    clear hb1
    go_wp2_with fail
    refine (HC.out _).mono ?_; rintro e w2 ⟨rfl, hb2⟩
    have p20 := rule hb2 (w.heap.size) (by omega)
    have p21 := rule hb2 (w.heap.size + 1) (by omega)
    have q2 := ruleF hb2 (w.heap.size + 1) (by omega)
    have HN2 := Lib.hid (HN1.out.below hb2)
    have HB2 := Lib.hid (bthen HB1.out hb2)
    have hz2 : w.heap.size + 1 < w2.heap.size := by have := hb2.size; omega
    clear hb2
    go_wp2_with fail
    refine (HM.out _).mono ?_; rintro e w3 ⟨rfl, hb3⟩
    have p30 := rule hb3 (w.heap.size) (by omega)
    have p31 := rule hb3 (w.heap.size + 1) (by omega)
    have q3 := ruleF hb3 (w.heap.size + 1) (by omega)
    have HN3 := Lib.hid (HN2.out.below hb3)
    have HB3 := Lib.hid (bthen HB2.out hb3)
    have hz3 : w.heap.size + 1 < w3.heap.size := by have := hb3.size; omega
    clear hb3
    go_wp2_with fail
    exact bodyPost_ret (results_ob2 Tryd.results47 _ _ (w.heap.size + 1) rfl rfl (put8 HN3.out _ _ _ _ _ _ _ _).blk) rfl ⟨rfl, below_put8 HB3.out (by omega) (put8 HN3.out _ _ _ _ _ _ _ _)⟩
  · rw [if_neg ha]
    have ha' : (asE a == 0) = false := by simpa using ha
    clear ha hC
    generalize asV a = x at *
    generalize asE a = u at *
    unfold noO
    obtain ⟨ka, xa, ca, na, sa, ra, fa, la⟩ := a
    unfold Ob.val Out.val at *
    simp only at *
    go_enter Tryd.func47, Tryd.ntmps47
    go_wp2_with fail
    refine (hX _).mono ?_; rintro e w1 ⟨rfl, hb1⟩
    have p10 := rule hb1 (w.heap.size) (by simp <;> omega)
    have p11 := rule hb1 (w.heap.size + 1) (by simp <;> omega)
    have q1 := ruleF hb1 (w.heap.size + 1) (by simp <;> omega)
    have HN1 := Lib.hid (show Nul w1 (w.heap.size + 1) from Nul.below (alloc_at (by simp)) hb1)
    have HB1 := Lib.hid (bthen (below2 _ _ _ ) hb1)
    have hz1 : w.heap.size + 1 < w1.heap.size := by have := hb1.size; simp at this; omega
    clear hb1
    go_wp2_with fail
    exact bodyPost_ret (results_ob2 Tryd.results47 _ _ (w.heap.size + 1) rfl rfl (put8 HN1.out _ _ _ _ _ _ _ _).blk) rfl ⟨rfl, below_put8 HB1.out (by omega) (put8 HN1.out _ _ _ _ _ _ _ _)⟩
end Ari
end Go.Proofs.YtgbpldfcahajeaaDoor
