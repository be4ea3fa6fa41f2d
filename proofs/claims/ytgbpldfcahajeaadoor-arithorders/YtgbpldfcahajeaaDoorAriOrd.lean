/-
  ArithOrders: its walk (made by genord.py).
-/
import Derived.Test.YtgbpldfcahajeaaDoorAriLaw
namespace Go.Proofs.YtgbpldfcahajeaaDoor
open Go.RowKit
open Fx
namespace Ari
theorem ord_both {a b : Ob} (h : (isNumB a && isNumB b) = true) :
    (lessB a b = true ∧ equalB a b = false ∧ lessB b a = false) ∨ (lessB a b = false ∧ equalB a b = true ∧ lessB b a = false) ∨ (lessB a b = false ∧ equalB a b = false ∧ lessB b a = true) := by
  rw [Bool.and_eq_true] at h
  unfold lessB equalB
  rw [h.1, h.2]
  simp only [Bool.true_and, Bool.and_self]
  rcases Int.lt_trichotomy (valI a) (valI b) with h1 | h1 | h1
  · left; simp; omega
  · right; left; simp; omega
  · right; right; simp; omega
theorem ord_lt {a b : Ob} (h : (isNumB a && isNumB b) = true) : cmpO (fun x y => decide (x < y)) a b = ⟨3, if lessB a b = true then 1 else 0, 0⟩ := by
  unfold cmpO truO lessB okO
  rw [h]
  simp
theorem ord_far (a b c : Ob) : ((isNumB b && isNumB c) = false ∧ lessB b c = false) ∨ ((isNumB b && isNumB c) = true ∧ (lessB a b = false ∨ lessB b c = false ∨ lessB a c = true)) := by
  cases h : (isNumB b && isNumB c)
  · left; unfold lessB; rw [h]; simp
  · right
    refine ⟨rfl, ?_⟩
    unfold lessB
    cases h1 : isNumB a <;> cases h2 : isNumB b <;> cases h3 : isNumB c
    all_goals (try simp)
    omega
set_option maxHeartbeats 2000000 in
set_option maxRecDepth 100000 in
theorem orders_no (a b c : Ob) (h : (isNumB a && isNumB b) = false) (w : World) : Calls Tryd.prog 4 #[a.val, b.val, c.val] w fun e w' => e = .returned (.bool true) ∧ Below w.heap.size w w' := by
    have hA := fun W => answers_at W
    have hL := less_at a b
    have hQ := equal_at a b
    have l0 : lessB a b = false := by unfold lessB; rw [h]; rfl
    have q0 : equalB a b = false := by unfold equalB; rw [h]; rfl
    rw [l0, h] at hL
    rw [q0, h] at hQ
    have hVa := val_at a
    have hVb := val_at b
    have hNa := refNum_at a
    have hNb := refNum_at b
    clear l0 q0
    cases ha : isNumB a
    · rw [ha] at hNa
      clear ha h hNb hVb
      obtain ⟨ka, xa, ca, na, sa, ra, fa, la⟩ := a
      obtain ⟨kb, xb, cb, nb, sb, rb, fb, lb⟩ := b
      obtain ⟨kc, xc, cc, nc, sc, rc, fc, lc⟩ := c
      unfold Ob.val Ob.vl at *
      simp only at *
      go_enter Tryd.func4, Tryd.ntmps4
      go_wp2_with fail
      refine (hL _).mono ?_; rintro e w1 ⟨rfl, hb1⟩
      have p10 := rule hb1 (w.heap.size) (by simp <;> omega)
      have p11 := rule hb1 (w.heap.size + 1) (by simp <;> omega)
      have p12 := rule hb1 (w.heap.size + 1 + 1) (by simp <;> omega)
      have HB1 := Lib.hid (bthen (below3 _ _ _ _ ) hb1)
      have hz1 : w.heap.size + 1 + 1 < w1.heap.size := by have := hb1.size; simp at this; omega
      clear hb1
      go_wp2_with fail
      refine (hQ _).mono ?_; rintro e w2 ⟨rfl, hb2⟩
      have p20 := rule hb2 (w.heap.size) (by omega)
      have p21 := rule hb2 (w.heap.size + 1) (by omega)
      have p22 := rule hb2 (w.heap.size + 1 + 1) (by omega)
      have HB2 := Lib.hid (bthen HB1.out hb2)
      have hz2 : w.heap.size + 1 + 1 < w2.heap.size := by have := hb2.size; omega
      clear hb2
      go_wp2_with fail
      refine (hVa _).mono ?_; rintro e w3 ⟨rfl, hb3⟩
      have p30 := rule hb3 (w.heap.size) (by omega)
      have p31 := rule hb3 (w.heap.size + 1) (by omega)
      have p32 := rule hb3 (w.heap.size + 1 + 1) (by omega)
      have HB3 := Lib.hid (bthen HB2.out hb3)
      have hz3 : w.heap.size + 1 + 1 < w3.heap.size := by have := hb3.size; omega
      clear hb3
      go_wp2_with fail
      refine (hNa _).mono ?_; rintro e w4 ⟨rfl, hb4⟩
      have p40 := rule hb4 (w.heap.size) (by omega)
      have p41 := rule hb4 (w.heap.size + 1) (by omega)
      have p42 := rule hb4 (w.heap.size + 1 + 1) (by omega)
      have HB4 := Lib.hid (bthen HB3.out hb4)
      have hz4 : w.heap.size + 1 + 1 < w4.heap.size := by have := hb4.size; omega
      clear hb4
      go_wp2_with fail
      refine (hA _).mono ?_; rintro e w5 ⟨rfl, hb5⟩
      have p50 := rule hb5 (w.heap.size) (by omega)
      have p51 := rule hb5 (w.heap.size + 1) (by omega)
      have p52 := rule hb5 (w.heap.size + 1 + 1) (by omega)
      have HB5 := Lib.hid (bthen HB4.out hb5)
      have hz5 : w.heap.size + 1 + 1 < w5.heap.size := by have := hb5.size; omega
      clear hb5
      go_wp2_with fail
      go_ret
      exact ⟨rfl, HB5.out⟩
    · have hb : isNumB b = false := by rw [ha] at h; simpa using h
      rw [ha] at hNa
      rw [hb] at hNb
      clear ha hb h
      obtain ⟨ka, xa, ca, na, sa, ra, fa, la⟩ := a
      obtain ⟨kb, xb, cb, nb, sb, rb, fb, lb⟩ := b
      obtain ⟨kc, xc, cc, nc, sc, rc, fc, lc⟩ := c
      unfold Ob.val Ob.vl at *
      simp only at *
      go_enter Tryd.func4, Tryd.ntmps4
      go_wp2_with fail
      refine (hL _).mono ?_; rintro e w1 ⟨rfl, hb1⟩
      have p10 := rule hb1 (w.heap.size) (by simp <;> omega)
      have p11 := rule hb1 (w.heap.size + 1) (by simp <;> omega)
      have p12 := rule hb1 (w.heap.size + 1 + 1) (by simp <;> omega)
      have HB1 := Lib.hid (bthen (below3 _ _ _ _ ) hb1)
      have hz1 : w.heap.size + 1 + 1 < w1.heap.size := by have := hb1.size; simp at this; omega
      clear hb1
      go_wp2_with fail
      refine (hQ _).mono ?_; rintro e w2 ⟨rfl, hb2⟩
      have p20 := rule hb2 (w.heap.size) (by omega)
      have p21 := rule hb2 (w.heap.size + 1) (by omega)
      have p22 := rule hb2 (w.heap.size + 1 + 1) (by omega)
      have HB2 := Lib.hid (bthen HB1.out hb2)
      have hz2 : w.heap.size + 1 + 1 < w2.heap.size := by have := hb2.size; omega
      clear hb2
      go_wp2_with fail
      refine (hVa _).mono ?_; rintro e w3 ⟨rfl, hb3⟩
      have p30 := rule hb3 (w.heap.size) (by omega)
      have p31 := rule hb3 (w.heap.size + 1) (by omega)
      have p32 := rule hb3 (w.heap.size + 1 + 1) (by omega)
      have HB3 := Lib.hid (bthen HB2.out hb3)
      have hz3 : w.heap.size + 1 + 1 < w3.heap.size := by have := hb3.size; omega
      clear hb3
      go_wp2_with fail
      refine (hNa _).mono ?_; rintro e w4 ⟨rfl, hb4⟩
      have p40 := rule hb4 (w.heap.size) (by omega)
      have p41 := rule hb4 (w.heap.size + 1) (by omega)
      have p42 := rule hb4 (w.heap.size + 1 + 1) (by omega)
      have HB4 := Lib.hid (bthen HB3.out hb4)
      have hz4 : w.heap.size + 1 + 1 < w4.heap.size := by have := hb4.size; omega
      clear hb4
      go_wp2_with fail
      refine (hVb _).mono ?_; rintro e w5 ⟨rfl, hb5⟩
      have p50 := rule hb5 (w.heap.size) (by omega)
      have p51 := rule hb5 (w.heap.size + 1) (by omega)
      have p52 := rule hb5 (w.heap.size + 1 + 1) (by omega)
      have HB5 := Lib.hid (bthen HB4.out hb5)
      have hz5 : w.heap.size + 1 + 1 < w5.heap.size := by have := hb5.size; omega
      clear hb5
      go_wp2_with fail
      refine (hNb _).mono ?_; rintro e w6 ⟨rfl, hb6⟩
      have p60 := rule hb6 (w.heap.size) (by omega)
      have p61 := rule hb6 (w.heap.size + 1) (by omega)
      have p62 := rule hb6 (w.heap.size + 1 + 1) (by omega)
      have HB6 := Lib.hid (bthen HB5.out hb6)
      have hz6 : w.heap.size + 1 + 1 < w6.heap.size := by have := hb6.size; omega
      clear hb6
      go_wp2_with fail
      refine (hA _).mono ?_; rintro e w7 ⟨rfl, hb7⟩
      have p70 := rule hb7 (w.heap.size) (by omega)
      have p71 := rule hb7 (w.heap.size + 1) (by omega)
      have p72 := rule hb7 (w.heap.size + 1 + 1) (by omega)
      have HB7 := Lib.hid (bthen HB6.out hb7)
      have hz7 : w.heap.size + 1 + 1 < w7.heap.size := by have := hb7.size; omega
      clear hb7
      go_wp2_with fail
      go_ret
      exact ⟨rfl, HB7.out⟩
set_option maxHeartbeats 6000000 in
set_option maxRecDepth 100000 in
theorem orders_lt (a b c : Ob) (h : (isNumB a && isNumB b) = true) (hx : lessB a b = true) (hy : equalB a b = false) (hz : lessB b a = false) (w : World) : Calls Tryd.prog 4 #[a.val, b.val, c.val] w fun e w' => e = .returned (.bool true) ∧ Below w.heap.size w w' := by
    have hA := fun W => answers_at W
    have hL := less_at a b
    have hQ := equal_at a b
    have hM := less_at b a
    have hT := fun W => two_lt a b W
    have hB := less_at b c
    have hF := less_at a c
    have hfar := ord_far a b c
    rw [ord_lt h, hx] at hT
    rw [hx, h] at hL
    rw [hy, h] at hQ
    rw [hz, Bool.and_comm, h] at hM
    rw [hx] at hfar
    rw [Bool.and_eq_true] at h
    have hVa := val_at a
    have hVb := val_at b
    have hNa := refNum_at a
    have hNb := refNum_at b
    rw [h.1] at hNa
    rw [h.2] at hNb
    clear h hx hy hz
    generalize lessB b c = t at *
    generalize (isNumB b && isNumB c) = i at *
    generalize lessB a c = f at *
    generalize (isNumB a && isNumB c) = j at *
    simp only [if_true] at hT
    obtain ⟨ka, xa, ca, na, sa, ra, fa, la⟩ := a
    obtain ⟨kb, xb, cb, nb, sb, rb, fb, lb⟩ := b
    obtain ⟨kc, xc, cc, nc, sc, rc, fc, lc⟩ := c
    unfold Ob.val Ob.vl at *
    simp only at *
    cases i <;> cases t <;> cases f
    all_goals first
      | (exfalso; simp at hfar; done)
      | (
          clear hfar
          go_enter Tryd.func4, Tryd.ntmps4
          go_wp2_with fail
          refine (hL _).mono ?_; rintro e w1 ⟨rfl, hb1⟩
          have p10 := rule hb1 (w.heap.size) (by simp <;> omega)
          have p11 := rule hb1 (w.heap.size + 1) (by simp <;> omega)
          have p12 := rule hb1 (w.heap.size + 1 + 1) (by simp <;> omega)
          have HB1 := Lib.hid (bthen (below3 _ _ _ _ ) hb1)
          have hz1 : w.heap.size + 1 + 1 < w1.heap.size := by have := hb1.size; simp at this; omega
          clear hb1
          go_wp2_with fail
          refine (hQ _).mono ?_; rintro e w2 ⟨rfl, hb2⟩
          have p20 := rule hb2 (w.heap.size) (by omega)
          have p21 := rule hb2 (w.heap.size + 1) (by omega)
          have p22 := rule hb2 (w.heap.size + 1 + 1) (by omega)
          have HB2 := Lib.hid (bthen HB1.out hb2)
          have hz2 : w.heap.size + 1 + 1 < w2.heap.size := by have := hb2.size; omega
          clear hb2
          go_wp2_with fail
          refine (hVa _).mono ?_; rintro e w3 ⟨rfl, hb3⟩
          have p30 := rule hb3 (w.heap.size) (by omega)
          have p31 := rule hb3 (w.heap.size + 1) (by omega)
          have p32 := rule hb3 (w.heap.size + 1 + 1) (by omega)
          have HB3 := Lib.hid (bthen HB2.out hb3)
          have hz3 : w.heap.size + 1 + 1 < w3.heap.size := by have := hb3.size; omega
          clear hb3
          go_wp2_with fail
          refine (hNa _).mono ?_; rintro e w4 ⟨rfl, hb4⟩
          have p40 := rule hb4 (w.heap.size) (by omega)
          have p41 := rule hb4 (w.heap.size + 1) (by omega)
          have p42 := rule hb4 (w.heap.size + 1 + 1) (by omega)
          have HB4 := Lib.hid (bthen HB3.out hb4)
          have hz4 : w.heap.size + 1 + 1 < w4.heap.size := by have := hb4.size; omega
          clear hb4
          go_wp2_with fail
          refine (hVb _).mono ?_; rintro e w5 ⟨rfl, hb5⟩
          have p50 := rule hb5 (w.heap.size) (by omega)
          have p51 := rule hb5 (w.heap.size + 1) (by omega)
          have p52 := rule hb5 (w.heap.size + 1 + 1) (by omega)
          have HB5 := Lib.hid (bthen HB4.out hb5)
          have hz5 : w.heap.size + 1 + 1 < w5.heap.size := by have := hb5.size; omega
          clear hb5
          go_wp2_with fail
          refine (hNb _).mono ?_; rintro e w6 ⟨rfl, hb6⟩
          have p60 := rule hb6 (w.heap.size) (by omega)
          have p61 := rule hb6 (w.heap.size + 1) (by omega)
          have p62 := rule hb6 (w.heap.size + 1 + 1) (by omega)
          have HB6 := Lib.hid (bthen HB5.out hb6)
          have hz6 : w.heap.size + 1 + 1 < w6.heap.size := by have := hb6.size; omega
          clear hb6
          go_wp2_with fail
          refine (hA _).mono ?_; rintro e w7 ⟨rfl, hb7⟩
          have p70 := rule hb7 (w.heap.size) (by omega)
          have p71 := rule hb7 (w.heap.size + 1) (by omega)
          have p72 := rule hb7 (w.heap.size + 1 + 1) (by omega)
          have HB7 := Lib.hid (bthen HB6.out hb7)
          have hz7 : w.heap.size + 1 + 1 < w7.heap.size := by have := hb7.size; omega
          clear hb7
          go_wp2_with fail
          refine (hM _).mono ?_; rintro e w8 ⟨rfl, hb8⟩
          have p80 := rule hb8 (w.heap.size) (by omega)
          have p81 := rule hb8 (w.heap.size + 1) (by omega)
          have p82 := rule hb8 (w.heap.size + 1 + 1) (by omega)
          have HB8 := Lib.hid (bthen HB7.out hb8)
          have hz8 : w.heap.size + 1 + 1 < w8.heap.size := by have := hb8.size; omega
          clear hb8
          go_wp2_with fail
          refine (do_two (r := ⟨3, 1, 0⟩) (a := ⟨ka, xa, ca, na, sa, ra, fa, la⟩) (b := ⟨kb, xb, cb, nb, sb, rb, fb, lb⟩) hT (at8_two w8 ⟨ka, xa, ca, na, sa, ra, fa, la⟩ ⟨kb, xb, cb, nb, sb, rb, fb, lb⟩).1 (at8_two w8 ⟨ka, xa, ca, na, sa, ra, fa, la⟩ ⟨kb, xb, cb, nb, sb, rb, fb, lb⟩).2).mono ?_
          rintro e w9 hD
          obtain ⟨bk, hbk, rfl, hcs⟩ := hD.ok rfl
          have c3 := blk_cell hcs 3
          have p90 := ruleA hD.below (w.heap.size) (by omega)
          have p91 := ruleA hD.below (w.heap.size + 1) (by omega)
          have p92 := ruleA hD.below (w.heap.size + 1 + 1) (by omega)
          have HB9 := Lib.hid (bthen HB8.out (bthen (below1 _ _) hD.below))
          have hz9 : w.heap.size + 1 + 1 < w9.heap.size := by have := hD.below.size; simp at this; omega
          clear hD hcs hbk
          simp at c3
          go_wp2_with fail
          refine (hB _).mono ?_; rintro e w10 ⟨rfl, hb10⟩
          have p100 := rule hb10 (w.heap.size) (by omega)
          have p101 := rule hb10 (w.heap.size + 1) (by omega)
          have p102 := rule hb10 (w.heap.size + 1 + 1) (by omega)
          have HB10 := Lib.hid (bthen HB9.out hb10)
          have hz10 : w.heap.size + 1 + 1 < w10.heap.size := by have := hb10.size; omega
          clear hb10
          go_wp2_with fail
          refine (hF _).mono ?_; rintro e w11 ⟨rfl, hb11⟩
          have p110 := rule hb11 (w.heap.size) (by omega)
          have p111 := rule hb11 (w.heap.size + 1) (by omega)
          have p112 := rule hb11 (w.heap.size + 1 + 1) (by omega)
          have HB11 := Lib.hid (bthen HB10.out hb11)
          have hz11 : w.heap.size + 1 + 1 < w11.heap.size := by have := hb11.size; omega
          clear hb11
          go_wp2_with fail
          go_ret
          exact ⟨rfl, HB11.out⟩)
set_option maxHeartbeats 6000000 in
set_option maxRecDepth 100000 in
theorem orders_eq (a b c : Ob) (h : (isNumB a && isNumB b) = true) (hx : lessB a b = false) (hy : equalB a b = true) (hz : lessB b a = false) (w : World) : Calls Tryd.prog 4 #[a.val, b.val, c.val] w fun e w' => e = .returned (.bool true) ∧ Below w.heap.size w w' := by
    have hA := fun W => answers_at W
    have hL := less_at a b
    have hQ := equal_at a b
    have hM := less_at b a
    have hT := fun W => two_lt a b W
    have hB := less_at b c
    have hF := less_at a c
    have hfar := ord_far a b c
    rw [ord_lt h, hx] at hT
    rw [hx, h] at hL
    rw [hy, h] at hQ
    rw [hz, Bool.and_comm, h] at hM
    rw [hx] at hfar
    rw [Bool.and_eq_true] at h
    have hVa := val_at a
    have hVb := val_at b
    have hNa := refNum_at a
    have hNb := refNum_at b
    rw [h.1] at hNa
    rw [h.2] at hNb
    clear h hx hy hz
    generalize lessB b c = t at *
    generalize (isNumB b && isNumB c) = i at *
    generalize lessB a c = f at *
    generalize (isNumB a && isNumB c) = j at *
    simp only [Bool.false_eq_true, if_false] at hT
    obtain ⟨ka, xa, ca, na, sa, ra, fa, la⟩ := a
    obtain ⟨kb, xb, cb, nb, sb, rb, fb, lb⟩ := b
    obtain ⟨kc, xc, cc, nc, sc, rc, fc, lc⟩ := c
    unfold Ob.val Ob.vl at *
    simp only at *
    cases i <;> cases t <;> cases f
    all_goals first
      | (exfalso; simp at hfar; done)
      | (
          clear hfar
          go_enter Tryd.func4, Tryd.ntmps4
          go_wp2_with fail
          refine (hL _).mono ?_; rintro e w1 ⟨rfl, hb1⟩
          have p10 := rule hb1 (w.heap.size) (by simp <;> omega)
          have p11 := rule hb1 (w.heap.size + 1) (by simp <;> omega)
          have p12 := rule hb1 (w.heap.size + 1 + 1) (by simp <;> omega)
          have HB1 := Lib.hid (bthen (below3 _ _ _ _ ) hb1)
          have hz1 : w.heap.size + 1 + 1 < w1.heap.size := by have := hb1.size; simp at this; omega
          clear hb1
          go_wp2_with fail
          refine (hQ _).mono ?_; rintro e w2 ⟨rfl, hb2⟩
          have p20 := rule hb2 (w.heap.size) (by omega)
          have p21 := rule hb2 (w.heap.size + 1) (by omega)
          have p22 := rule hb2 (w.heap.size + 1 + 1) (by omega)
          have HB2 := Lib.hid (bthen HB1.out hb2)
          have hz2 : w.heap.size + 1 + 1 < w2.heap.size := by have := hb2.size; omega
          clear hb2
          go_wp2_with fail
          refine (hVa _).mono ?_; rintro e w3 ⟨rfl, hb3⟩
          have p30 := rule hb3 (w.heap.size) (by omega)
          have p31 := rule hb3 (w.heap.size + 1) (by omega)
          have p32 := rule hb3 (w.heap.size + 1 + 1) (by omega)
          have HB3 := Lib.hid (bthen HB2.out hb3)
          have hz3 : w.heap.size + 1 + 1 < w3.heap.size := by have := hb3.size; omega
          clear hb3
          go_wp2_with fail
          refine (hNa _).mono ?_; rintro e w4 ⟨rfl, hb4⟩
          have p40 := rule hb4 (w.heap.size) (by omega)
          have p41 := rule hb4 (w.heap.size + 1) (by omega)
          have p42 := rule hb4 (w.heap.size + 1 + 1) (by omega)
          have HB4 := Lib.hid (bthen HB3.out hb4)
          have hz4 : w.heap.size + 1 + 1 < w4.heap.size := by have := hb4.size; omega
          clear hb4
          go_wp2_with fail
          refine (hVb _).mono ?_; rintro e w5 ⟨rfl, hb5⟩
          have p50 := rule hb5 (w.heap.size) (by omega)
          have p51 := rule hb5 (w.heap.size + 1) (by omega)
          have p52 := rule hb5 (w.heap.size + 1 + 1) (by omega)
          have HB5 := Lib.hid (bthen HB4.out hb5)
          have hz5 : w.heap.size + 1 + 1 < w5.heap.size := by have := hb5.size; omega
          clear hb5
          go_wp2_with fail
          refine (hNb _).mono ?_; rintro e w6 ⟨rfl, hb6⟩
          have p60 := rule hb6 (w.heap.size) (by omega)
          have p61 := rule hb6 (w.heap.size + 1) (by omega)
          have p62 := rule hb6 (w.heap.size + 1 + 1) (by omega)
          have HB6 := Lib.hid (bthen HB5.out hb6)
          have hz6 : w.heap.size + 1 + 1 < w6.heap.size := by have := hb6.size; omega
          clear hb6
          go_wp2_with fail
          refine (hA _).mono ?_; rintro e w7 ⟨rfl, hb7⟩
          have p70 := rule hb7 (w.heap.size) (by omega)
          have p71 := rule hb7 (w.heap.size + 1) (by omega)
          have p72 := rule hb7 (w.heap.size + 1 + 1) (by omega)
          have HB7 := Lib.hid (bthen HB6.out hb7)
          have hz7 : w.heap.size + 1 + 1 < w7.heap.size := by have := hb7.size; omega
          clear hb7
          go_wp2_with fail
          refine (hM _).mono ?_; rintro e w8 ⟨rfl, hb8⟩
          have p80 := rule hb8 (w.heap.size) (by omega)
          have p81 := rule hb8 (w.heap.size + 1) (by omega)
          have p82 := rule hb8 (w.heap.size + 1 + 1) (by omega)
          have HB8 := Lib.hid (bthen HB7.out hb8)
          have hz8 : w.heap.size + 1 + 1 < w8.heap.size := by have := hb8.size; omega
          clear hb8
          go_wp2_with fail
          refine (do_two (r := ⟨3, 0, 0⟩) (a := ⟨ka, xa, ca, na, sa, ra, fa, la⟩) (b := ⟨kb, xb, cb, nb, sb, rb, fb, lb⟩) hT (at8_two w8 ⟨ka, xa, ca, na, sa, ra, fa, la⟩ ⟨kb, xb, cb, nb, sb, rb, fb, lb⟩).1 (at8_two w8 ⟨ka, xa, ca, na, sa, ra, fa, la⟩ ⟨kb, xb, cb, nb, sb, rb, fb, lb⟩).2).mono ?_
          rintro e w9 hD
          obtain ⟨bk, hbk, rfl, hcs⟩ := hD.ok rfl
          have c3 := blk_cell hcs 3
          have p90 := ruleA hD.below (w.heap.size) (by omega)
          have p91 := ruleA hD.below (w.heap.size + 1) (by omega)
          have p92 := ruleA hD.below (w.heap.size + 1 + 1) (by omega)
          have HB9 := Lib.hid (bthen HB8.out (bthen (below1 _ _) hD.below))
          have hz9 : w.heap.size + 1 + 1 < w9.heap.size := by have := hD.below.size; simp at this; omega
          clear hD hcs hbk
          simp at c3
          go_wp2_with fail
          refine (hB _).mono ?_; rintro e w10 ⟨rfl, hb10⟩
          have p100 := rule hb10 (w.heap.size) (by omega)
          have p101 := rule hb10 (w.heap.size + 1) (by omega)
          have p102 := rule hb10 (w.heap.size + 1 + 1) (by omega)
          have HB10 := Lib.hid (bthen HB9.out hb10)
          have hz10 : w.heap.size + 1 + 1 < w10.heap.size := by have := hb10.size; omega
          clear hb10
          go_wp2_with fail
          refine (hF _).mono ?_; rintro e w11 ⟨rfl, hb11⟩
          have p110 := rule hb11 (w.heap.size) (by omega)
          have p111 := rule hb11 (w.heap.size + 1) (by omega)
          have p112 := rule hb11 (w.heap.size + 1 + 1) (by omega)
          have HB11 := Lib.hid (bthen HB10.out hb11)
          have hz11 : w.heap.size + 1 + 1 < w11.heap.size := by have := hb11.size; omega
          clear hb11
          go_wp2_with fail
          go_ret
          exact ⟨rfl, HB11.out⟩)
set_option maxHeartbeats 6000000 in
set_option maxRecDepth 100000 in
theorem orders_gt (a b c : Ob) (h : (isNumB a && isNumB b) = true) (hx : lessB a b = false) (hy : equalB a b = false) (hz : lessB b a = true) (w : World) : Calls Tryd.prog 4 #[a.val, b.val, c.val] w fun e w' => e = .returned (.bool true) ∧ Below w.heap.size w w' := by
    have hA := fun W => answers_at W
    have hL := less_at a b
    have hQ := equal_at a b
    have hM := less_at b a
    have hT := fun W => two_lt a b W
    have hB := less_at b c
    have hF := less_at a c
    have hfar := ord_far a b c
    rw [ord_lt h, hx] at hT
    rw [hx, h] at hL
    rw [hy, h] at hQ
    rw [hz, Bool.and_comm, h] at hM
    rw [hx] at hfar
    rw [Bool.and_eq_true] at h
    have hVa := val_at a
    have hVb := val_at b
    have hNa := refNum_at a
    have hNb := refNum_at b
    rw [h.1] at hNa
    rw [h.2] at hNb
    clear h hx hy hz
    generalize lessB b c = t at *
    generalize (isNumB b && isNumB c) = i at *
    generalize lessB a c = f at *
    generalize (isNumB a && isNumB c) = j at *
    simp only [Bool.false_eq_true, if_false] at hT
    obtain ⟨ka, xa, ca, na, sa, ra, fa, la⟩ := a
    obtain ⟨kb, xb, cb, nb, sb, rb, fb, lb⟩ := b
    obtain ⟨kc, xc, cc, nc, sc, rc, fc, lc⟩ := c
    unfold Ob.val Ob.vl at *
    simp only at *
    cases i <;> cases t <;> cases f
    all_goals first
      | (exfalso; simp at hfar; done)
      | (
          clear hfar
          go_enter Tryd.func4, Tryd.ntmps4
          go_wp2_with fail
          refine (hL _).mono ?_; rintro e w1 ⟨rfl, hb1⟩
          have p10 := rule hb1 (w.heap.size) (by simp <;> omega)
          have p11 := rule hb1 (w.heap.size + 1) (by simp <;> omega)
          have p12 := rule hb1 (w.heap.size + 1 + 1) (by simp <;> omega)
          have HB1 := Lib.hid (bthen (below3 _ _ _ _ ) hb1)
          have hz1 : w.heap.size + 1 + 1 < w1.heap.size := by have := hb1.size; simp at this; omega
          clear hb1
          go_wp2_with fail
          refine (hQ _).mono ?_; rintro e w2 ⟨rfl, hb2⟩
          have p20 := rule hb2 (w.heap.size) (by omega)
          have p21 := rule hb2 (w.heap.size + 1) (by omega)
          have p22 := rule hb2 (w.heap.size + 1 + 1) (by omega)
          have HB2 := Lib.hid (bthen HB1.out hb2)
          have hz2 : w.heap.size + 1 + 1 < w2.heap.size := by have := hb2.size; omega
          clear hb2
          go_wp2_with fail
          refine (hVa _).mono ?_; rintro e w3 ⟨rfl, hb3⟩
          have p30 := rule hb3 (w.heap.size) (by omega)
          have p31 := rule hb3 (w.heap.size + 1) (by omega)
          have p32 := rule hb3 (w.heap.size + 1 + 1) (by omega)
          have HB3 := Lib.hid (bthen HB2.out hb3)
          have hz3 : w.heap.size + 1 + 1 < w3.heap.size := by have := hb3.size; omega
          clear hb3
          go_wp2_with fail
          refine (hNa _).mono ?_; rintro e w4 ⟨rfl, hb4⟩
          have p40 := rule hb4 (w.heap.size) (by omega)
          have p41 := rule hb4 (w.heap.size + 1) (by omega)
          have p42 := rule hb4 (w.heap.size + 1 + 1) (by omega)
          have HB4 := Lib.hid (bthen HB3.out hb4)
          have hz4 : w.heap.size + 1 + 1 < w4.heap.size := by have := hb4.size; omega
          clear hb4
          go_wp2_with fail
          refine (hVb _).mono ?_; rintro e w5 ⟨rfl, hb5⟩
          have p50 := rule hb5 (w.heap.size) (by omega)
          have p51 := rule hb5 (w.heap.size + 1) (by omega)
          have p52 := rule hb5 (w.heap.size + 1 + 1) (by omega)
          have HB5 := Lib.hid (bthen HB4.out hb5)
          have hz5 : w.heap.size + 1 + 1 < w5.heap.size := by have := hb5.size; omega
          clear hb5
          go_wp2_with fail
          refine (hNb _).mono ?_; rintro e w6 ⟨rfl, hb6⟩
          have p60 := rule hb6 (w.heap.size) (by omega)
          have p61 := rule hb6 (w.heap.size + 1) (by omega)
          have p62 := rule hb6 (w.heap.size + 1 + 1) (by omega)
          have HB6 := Lib.hid (bthen HB5.out hb6)
          have hz6 : w.heap.size + 1 + 1 < w6.heap.size := by have := hb6.size; omega
          clear hb6
          go_wp2_with fail
          refine (hA _).mono ?_; rintro e w7 ⟨rfl, hb7⟩
          have p70 := rule hb7 (w.heap.size) (by omega)
          have p71 := rule hb7 (w.heap.size + 1) (by omega)
          have p72 := rule hb7 (w.heap.size + 1 + 1) (by omega)
          have HB7 := Lib.hid (bthen HB6.out hb7)
          have hz7 : w.heap.size + 1 + 1 < w7.heap.size := by have := hb7.size; omega
          clear hb7
          go_wp2_with fail
          refine (hM _).mono ?_; rintro e w8 ⟨rfl, hb8⟩
          have p80 := rule hb8 (w.heap.size) (by omega)
          have p81 := rule hb8 (w.heap.size + 1) (by omega)
          have p82 := rule hb8 (w.heap.size + 1 + 1) (by omega)
          have HB8 := Lib.hid (bthen HB7.out hb8)
          have hz8 : w.heap.size + 1 + 1 < w8.heap.size := by have := hb8.size; omega
          clear hb8
          go_wp2_with fail
          refine (do_two (r := ⟨3, 0, 0⟩) (a := ⟨ka, xa, ca, na, sa, ra, fa, la⟩) (b := ⟨kb, xb, cb, nb, sb, rb, fb, lb⟩) hT (at8_two w8 ⟨ka, xa, ca, na, sa, ra, fa, la⟩ ⟨kb, xb, cb, nb, sb, rb, fb, lb⟩).1 (at8_two w8 ⟨ka, xa, ca, na, sa, ra, fa, la⟩ ⟨kb, xb, cb, nb, sb, rb, fb, lb⟩).2).mono ?_
          rintro e w9 hD
          obtain ⟨bk, hbk, rfl, hcs⟩ := hD.ok rfl
          have c3 := blk_cell hcs 3
          have p90 := ruleA hD.below (w.heap.size) (by omega)
          have p91 := ruleA hD.below (w.heap.size + 1) (by omega)
          have p92 := ruleA hD.below (w.heap.size + 1 + 1) (by omega)
          have HB9 := Lib.hid (bthen HB8.out (bthen (below1 _ _) hD.below))
          have hz9 : w.heap.size + 1 + 1 < w9.heap.size := by have := hD.below.size; simp at this; omega
          clear hD hcs hbk
          simp at c3
          go_wp2_with fail
          refine (hB _).mono ?_; rintro e w10 ⟨rfl, hb10⟩
          have p100 := rule hb10 (w.heap.size) (by omega)
          have p101 := rule hb10 (w.heap.size + 1) (by omega)
          have p102 := rule hb10 (w.heap.size + 1 + 1) (by omega)
          have HB10 := Lib.hid (bthen HB9.out hb10)
          have hz10 : w.heap.size + 1 + 1 < w10.heap.size := by have := hb10.size; omega
          clear hb10
          go_wp2_with fail
          refine (hF _).mono ?_; rintro e w11 ⟨rfl, hb11⟩
          have p110 := rule hb11 (w.heap.size) (by omega)
          have p111 := rule hb11 (w.heap.size + 1) (by omega)
          have p112 := rule hb11 (w.heap.size + 1 + 1) (by omega)
          have HB11 := Lib.hid (bthen HB10.out hb11)
          have hz11 : w.heap.size + 1 + 1 < w11.heap.size := by have := hb11.size; omega
          clear hb11
          go_wp2_with fail
          go_ret
          exact ⟨rfl, HB11.out⟩)
theorem orders_walk (a b c : Ob) (w : World) : Calls Tryd.prog 4 #[a.val, b.val, c.val] w fun e w' => e = .returned (.bool true) ∧ Below w.heap.size w w' := by
  cases h : (isNumB a && isNumB b)
  · exact orders_no a b c h w
  · rcases ord_both h with ⟨h1, h2, h3⟩ | ⟨h1, h2, h3⟩ | ⟨h1, h2, h3⟩
    · exact orders_lt a b c h h1 h2 h3 w
    · exact orders_eq a b c h h1 h2 h3 w
    · exact orders_gt a b c h h1 h2 h3 w
end Ari
end Go.Proofs.YtgbpldfcahajeaaDoor
