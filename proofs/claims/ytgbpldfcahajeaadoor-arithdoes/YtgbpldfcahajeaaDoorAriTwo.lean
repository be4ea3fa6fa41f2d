/-
  doTwo at each operator's name (made by gentwo.py).
-/
import Derived.Test.YtgbpldfcahajeaaDoorAriFn
namespace Go.Proofs.YtgbpldfcahajeaaDoor
open Go.RowKit
open Fx
namespace Ari
def cmpO (R : Int → Int → Bool) (a b : Ob) : Out := truO (isNumB a && isNumB b && R (valI a) (valI b)) (isNumB a && isNumB b)
set_option maxHeartbeats 2000000 in
set_option maxRecDepth 100000 in
theorem two_add (a b : Ob) (w : World) : Calls Tryd.prog 17 #[.string ⟨#[97, 100, 100]⟩, a.val, b.val] w fun e w' => e = .returned (numO (fun x y => x + y) addV addE a b).val ∧ Below w.heap.size w w' := by
    have hC := ofNumbers_any op_add fun_fadd a b
    generalize numO (fun x y => x + y) addV addE a b = r at *
    obtain ⟨ka, xa, ca, na, sa, ra, fa, la⟩ := a
    obtain ⟨kb, xb, cb, nb, sb, rb, fb, lb⟩ := b
    unfold Ob.val Out.val at *
    simp only at *
    go_enter Tryd.func17, Tryd.ntmps17
    go_wp2_with fail
    refine (hC _).mono ?_; rintro e w1 ⟨rfl, hb1⟩
    have p10 := rule hb1 (w.heap.size) (by simp <;> omega)
    have p11 := rule hb1 (w.heap.size + 1) (by simp <;> omega)
    have p12 := rule hb1 (w.heap.size + 1 + 1) (by simp <;> omega)
    have q1 := ruleF hb1 (w.heap.size + 1 + 1) (by simp <;> omega)
    have HN1 := Lib.hid (show Nul w1 (w.heap.size + 1 + 1) from Nul.below (alloc_at (by simp)) hb1)
    have HB1 := Lib.hid (bthen (below3 _ _ _ _ ) hb1)
    have hz1 : w.heap.size + 1 + 1 < w1.heap.size := by have := hb1.size; simp at this; omega
    clear hb1
    go_wp2_with fail
    exact bodyPost_ret (results_ob2 Tryd.results17 _ _ (w.heap.size + 1 + 1) rfl rfl (put8 HN1.out _ _ _ _ _ _ _ _).blk) rfl ⟨rfl, below_put8 HB1.out (by omega) (put8 HN1.out _ _ _ _ _ _ _ _)⟩
set_option maxHeartbeats 2000000 in
set_option maxRecDepth 100000 in
theorem two_sub (a b : Ob) (w : World) : Calls Tryd.prog 17 #[.string ⟨#[115, 117, 98]⟩, a.val, b.val] w fun e w' => e = .returned (numO (fun x y => x - y) subV subE a b).val ∧ Below w.heap.size w w' := by
    have hC := ofNumbers_any op_sub fun_fsub a b
    generalize numO (fun x y => x - y) subV subE a b = r at *
    obtain ⟨ka, xa, ca, na, sa, ra, fa, la⟩ := a
    obtain ⟨kb, xb, cb, nb, sb, rb, fb, lb⟩ := b
    unfold Ob.val Out.val at *
    simp only at *
    go_enter Tryd.func17, Tryd.ntmps17
    go_wp2_with fail
    refine (hC _).mono ?_; rintro e w1 ⟨rfl, hb1⟩
    have p10 := rule hb1 (w.heap.size) (by simp <;> omega)
    have p11 := rule hb1 (w.heap.size + 1) (by simp <;> omega)
    have p12 := rule hb1 (w.heap.size + 1 + 1) (by simp <;> omega)
    have q1 := ruleF hb1 (w.heap.size + 1 + 1) (by simp <;> omega)
    have HN1 := Lib.hid (show Nul w1 (w.heap.size + 1 + 1) from Nul.below (alloc_at (by simp)) hb1)
    have HB1 := Lib.hid (bthen (below3 _ _ _ _ ) hb1)
    have hz1 : w.heap.size + 1 + 1 < w1.heap.size := by have := hb1.size; simp at this; omega
    clear hb1
    go_wp2_with fail
    exact bodyPost_ret (results_ob2 Tryd.results17 _ _ (w.heap.size + 1 + 1) rfl rfl (put8 HN1.out _ _ _ _ _ _ _ _).blk) rfl ⟨rfl, below_put8 HB1.out (by omega) (put8 HN1.out _ _ _ _ _ _ _ _)⟩
set_option maxHeartbeats 2000000 in
set_option maxRecDepth 100000 in
theorem two_mul (a b : Ob) (w : World) : Calls Tryd.prog 17 #[.string ⟨#[109, 117, 108]⟩, a.val, b.val] w fun e w' => e = .returned (numO (fun x y => x * y) mulV mulE a b).val ∧ Below w.heap.size w w' := by
    have hC := ofNumbers_any op_mul fun_fmul a b
    generalize numO (fun x y => x * y) mulV mulE a b = r at *
    obtain ⟨ka, xa, ca, na, sa, ra, fa, la⟩ := a
    obtain ⟨kb, xb, cb, nb, sb, rb, fb, lb⟩ := b
    unfold Ob.val Out.val at *
    simp only at *
    go_enter Tryd.func17, Tryd.ntmps17
    go_wp2_with fail
    refine (hC _).mono ?_; rintro e w1 ⟨rfl, hb1⟩
    have p10 := rule hb1 (w.heap.size) (by simp <;> omega)
    have p11 := rule hb1 (w.heap.size + 1) (by simp <;> omega)
    have p12 := rule hb1 (w.heap.size + 1 + 1) (by simp <;> omega)
    have q1 := ruleF hb1 (w.heap.size + 1 + 1) (by simp <;> omega)
    have HN1 := Lib.hid (show Nul w1 (w.heap.size + 1 + 1) from Nul.below (alloc_at (by simp)) hb1)
    have HB1 := Lib.hid (bthen (below3 _ _ _ _ ) hb1)
    have hz1 : w.heap.size + 1 + 1 < w1.heap.size := by have := hb1.size; simp at this; omega
    clear hb1
    go_wp2_with fail
    exact bodyPost_ret (results_ob2 Tryd.results17 _ _ (w.heap.size + 1 + 1) rfl rfl (put8 HN1.out _ _ _ _ _ _ _ _).blk) rfl ⟨rfl, below_put8 HB1.out (by omega) (put8 HN1.out _ _ _ _ _ _ _ _)⟩
set_option maxHeartbeats 2000000 in
set_option maxRecDepth 100000 in
theorem two_div (a b : Ob) (w : World) : Calls Tryd.prog 17 #[.string ⟨#[100, 105, 118]⟩, a.val, b.val] w fun e w' => e = .returned (realsO divV divE a b).val ∧ Below w.heap.size w w' := by
    have hC := ofReals_any fun_fdiv a b
    generalize realsO divV divE a b = r at *
    obtain ⟨ka, xa, ca, na, sa, ra, fa, la⟩ := a
    obtain ⟨kb, xb, cb, nb, sb, rb, fb, lb⟩ := b
    unfold Ob.val Out.val at *
    simp only at *
    go_enter Tryd.func17, Tryd.ntmps17
    go_wp2_with fail
    refine (hC _).mono ?_; rintro e w1 ⟨rfl, hb1⟩
    have p10 := rule hb1 (w.heap.size) (by simp <;> omega)
    have p11 := rule hb1 (w.heap.size + 1) (by simp <;> omega)
    have p12 := rule hb1 (w.heap.size + 1 + 1) (by simp <;> omega)
    have q1 := ruleF hb1 (w.heap.size + 1 + 1) (by simp <;> omega)
    have HN1 := Lib.hid (show Nul w1 (w.heap.size + 1 + 1) from Nul.below (alloc_at (by simp)) hb1)
    have HB1 := Lib.hid (bthen (below3 _ _ _ _ ) hb1)
    have hz1 : w.heap.size + 1 + 1 < w1.heap.size := by have := hb1.size; simp at this; omega
    clear hb1
    go_wp2_with fail
    exact bodyPost_ret (results_ob2 Tryd.results17 _ _ (w.heap.size + 1 + 1) rfl rfl (put8 HN1.out _ _ _ _ _ _ _ _).blk) rfl ⟨rfl, below_put8 HB1.out (by omega) (put8 HN1.out _ _ _ _ _ _ _ _)⟩
set_option maxHeartbeats 2000000 in
set_option maxRecDepth 100000 in
theorem two_idiv (a b : Ob) (w : World) : Calls Tryd.prog 17 #[.string ⟨#[105, 100, 105, 118]⟩, a.val, b.val] w fun e w' => e = .returned (intsO quoV quoE a b).val ∧ Below w.heap.size w w' := by
    have hC := ofInts_any fun_quo a b
    generalize intsO quoV quoE a b = r at *
    obtain ⟨ka, xa, ca, na, sa, ra, fa, la⟩ := a
    obtain ⟨kb, xb, cb, nb, sb, rb, fb, lb⟩ := b
    unfold Ob.val Out.val at *
    simp only at *
    go_enter Tryd.func17, Tryd.ntmps17
    go_wp2_with fail
    refine (hC _).mono ?_; rintro e w1 ⟨rfl, hb1⟩
    have p10 := rule hb1 (w.heap.size) (by simp <;> omega)
    have p11 := rule hb1 (w.heap.size + 1) (by simp <;> omega)
    have p12 := rule hb1 (w.heap.size + 1 + 1) (by simp <;> omega)
    have q1 := ruleF hb1 (w.heap.size + 1 + 1) (by simp <;> omega)
    have HN1 := Lib.hid (show Nul w1 (w.heap.size + 1 + 1) from Nul.below (alloc_at (by simp)) hb1)
    have HB1 := Lib.hid (bthen (below3 _ _ _ _ ) hb1)
    have hz1 : w.heap.size + 1 + 1 < w1.heap.size := by have := hb1.size; simp at this; omega
    clear hb1
    go_wp2_with fail
    exact bodyPost_ret (results_ob2 Tryd.results17 _ _ (w.heap.size + 1 + 1) rfl rfl (put8 HN1.out _ _ _ _ _ _ _ _).blk) rfl ⟨rfl, below_put8 HB1.out (by omega) (put8 HN1.out _ _ _ _ _ _ _ _)⟩
set_option maxHeartbeats 2000000 in
set_option maxRecDepth 100000 in
theorem two_mod (a b : Ob) (w : World) : Calls Tryd.prog 17 #[.string ⟨#[109, 111, 100]⟩, a.val, b.val] w fun e w' => e = .returned (intsO remV remE a b).val ∧ Below w.heap.size w w' := by
    have hC := ofInts_any fun_rem a b
    generalize intsO remV remE a b = r at *
    obtain ⟨ka, xa, ca, na, sa, ra, fa, la⟩ := a
    obtain ⟨kb, xb, cb, nb, sb, rb, fb, lb⟩ := b
    unfold Ob.val Out.val at *
    simp only at *
    go_enter Tryd.func17, Tryd.ntmps17
    go_wp2_with fail
    refine (hC _).mono ?_; rintro e w1 ⟨rfl, hb1⟩
    have p10 := rule hb1 (w.heap.size) (by simp <;> omega)
    have p11 := rule hb1 (w.heap.size + 1) (by simp <;> omega)
    have p12 := rule hb1 (w.heap.size + 1 + 1) (by simp <;> omega)
    have q1 := ruleF hb1 (w.heap.size + 1 + 1) (by simp <;> omega)
    have HN1 := Lib.hid (show Nul w1 (w.heap.size + 1 + 1) from Nul.below (alloc_at (by simp)) hb1)
    have HB1 := Lib.hid (bthen (below3 _ _ _ _ ) hb1)
    have hz1 : w.heap.size + 1 + 1 < w1.heap.size := by have := hb1.size; simp at this; omega
    clear hb1
    go_wp2_with fail
    exact bodyPost_ret (results_ob2 Tryd.results17 _ _ (w.heap.size + 1 + 1) rfl rfl (put8 HN1.out _ _ _ _ _ _ _ _).blk) rfl ⟨rfl, below_put8 HB1.out (by omega) (put8 HN1.out _ _ _ _ _ _ _ _)⟩
set_option maxHeartbeats 2000000 in
set_option maxRecDepth 100000 in
theorem two_and (a b : Ob) (w : World) : Calls Tryd.prog 17 #[.string ⟨#[97, 110, 100]⟩, a.val, b.val] w fun e w' => e = .returned (bitO (fun x y => bits .and .i64 x y) a b).val ∧ Below w.heap.size w w' := by
    have hC := bitByBit_any op_and a b
    generalize bitO (fun x y => bits .and .i64 x y) a b = r at *
    obtain ⟨ka, xa, ca, na, sa, ra, fa, la⟩ := a
    obtain ⟨kb, xb, cb, nb, sb, rb, fb, lb⟩ := b
    unfold Ob.val Out.val at *
    simp only at *
    go_enter Tryd.func17, Tryd.ntmps17
    go_wp2_with fail
    refine (hC _).mono ?_; rintro e w1 ⟨rfl, hb1⟩
    have p10 := rule hb1 (w.heap.size) (by simp <;> omega)
    have p11 := rule hb1 (w.heap.size + 1) (by simp <;> omega)
    have p12 := rule hb1 (w.heap.size + 1 + 1) (by simp <;> omega)
    have q1 := ruleF hb1 (w.heap.size + 1 + 1) (by simp <;> omega)
    have HN1 := Lib.hid (show Nul w1 (w.heap.size + 1 + 1) from Nul.below (alloc_at (by simp)) hb1)
    have HB1 := Lib.hid (bthen (below3 _ _ _ _ ) hb1)
    have hz1 : w.heap.size + 1 + 1 < w1.heap.size := by have := hb1.size; simp at this; omega
    clear hb1
    go_wp2_with fail
    exact bodyPost_ret (results_ob2 Tryd.results17 _ _ (w.heap.size + 1 + 1) rfl rfl (put8 HN1.out _ _ _ _ _ _ _ _).blk) rfl ⟨rfl, below_put8 HB1.out (by omega) (put8 HN1.out _ _ _ _ _ _ _ _)⟩
set_option maxHeartbeats 2000000 in
set_option maxRecDepth 100000 in
theorem two_or (a b : Ob) (w : World) : Calls Tryd.prog 17 #[.string ⟨#[111, 114]⟩, a.val, b.val] w fun e w' => e = .returned (bitO (fun x y => bits .or .i64 x y) a b).val ∧ Below w.heap.size w w' := by
    have hC := bitByBit_any op_or a b
    generalize bitO (fun x y => bits .or .i64 x y) a b = r at *
    obtain ⟨ka, xa, ca, na, sa, ra, fa, la⟩ := a
    obtain ⟨kb, xb, cb, nb, sb, rb, fb, lb⟩ := b
    unfold Ob.val Out.val at *
    simp only at *
    go_enter Tryd.func17, Tryd.ntmps17
    go_wp2_with fail
    refine (hC _).mono ?_; rintro e w1 ⟨rfl, hb1⟩
    have p10 := rule hb1 (w.heap.size) (by simp <;> omega)
    have p11 := rule hb1 (w.heap.size + 1) (by simp <;> omega)
    have p12 := rule hb1 (w.heap.size + 1 + 1) (by simp <;> omega)
    have q1 := ruleF hb1 (w.heap.size + 1 + 1) (by simp <;> omega)
    have HN1 := Lib.hid (show Nul w1 (w.heap.size + 1 + 1) from Nul.below (alloc_at (by simp)) hb1)
    have HB1 := Lib.hid (bthen (below3 _ _ _ _ ) hb1)
    have hz1 : w.heap.size + 1 + 1 < w1.heap.size := by have := hb1.size; simp at this; omega
    clear hb1
    go_wp2_with fail
    exact bodyPost_ret (results_ob2 Tryd.results17 _ _ (w.heap.size + 1 + 1) rfl rfl (put8 HN1.out _ _ _ _ _ _ _ _).blk) rfl ⟨rfl, below_put8 HB1.out (by omega) (put8 HN1.out _ _ _ _ _ _ _ _)⟩
set_option maxHeartbeats 2000000 in
set_option maxRecDepth 100000 in
theorem two_xor (a b : Ob) (w : World) : Calls Tryd.prog 17 #[.string ⟨#[120, 111, 114]⟩, a.val, b.val] w fun e w' => e = .returned (bitO (fun x y => bits .xor .i64 x y) a b).val ∧ Below w.heap.size w w' := by
    have hC := bitByBit_any op_xor a b
    generalize bitO (fun x y => bits .xor .i64 x y) a b = r at *
    obtain ⟨ka, xa, ca, na, sa, ra, fa, la⟩ := a
    obtain ⟨kb, xb, cb, nb, sb, rb, fb, lb⟩ := b
    unfold Ob.val Out.val at *
    simp only at *
    go_enter Tryd.func17, Tryd.ntmps17
    go_wp2_with fail
    refine (hC _).mono ?_; rintro e w1 ⟨rfl, hb1⟩
    have p10 := rule hb1 (w.heap.size) (by simp <;> omega)
    have p11 := rule hb1 (w.heap.size + 1) (by simp <;> omega)
    have p12 := rule hb1 (w.heap.size + 1 + 1) (by simp <;> omega)
    have q1 := ruleF hb1 (w.heap.size + 1 + 1) (by simp <;> omega)
    have HN1 := Lib.hid (show Nul w1 (w.heap.size + 1 + 1) from Nul.below (alloc_at (by simp)) hb1)
    have HB1 := Lib.hid (bthen (below3 _ _ _ _ ) hb1)
    have hz1 : w.heap.size + 1 + 1 < w1.heap.size := by have := hb1.size; simp at this; omega
    clear hb1
    go_wp2_with fail
    exact bodyPost_ret (results_ob2 Tryd.results17 _ _ (w.heap.size + 1 + 1) rfl rfl (put8 HN1.out _ _ _ _ _ _ _ _).blk) rfl ⟨rfl, below_put8 HB1.out (by omega) (put8 HN1.out _ _ _ _ _ _ _ _)⟩
set_option maxHeartbeats 2000000 in
set_option maxRecDepth 100000 in
theorem two_bitshift (a b : Ob) (w : World) : Calls Tryd.prog 17 #[.string ⟨#[98, 105, 116, 115, 104, 105, 102, 116]⟩, a.val, b.val] w fun e w' => e = .returned (intsO shiV (fun _ _ => 0) a b).val ∧ Below w.heap.size w w' := by
    have hC := ofInts_any fun_shi a b
    generalize intsO shiV (fun _ _ => 0) a b = r at *
    obtain ⟨ka, xa, ca, na, sa, ra, fa, la⟩ := a
    obtain ⟨kb, xb, cb, nb, sb, rb, fb, lb⟩ := b
    unfold Ob.val Out.val at *
    simp only at *
    go_enter Tryd.func17, Tryd.ntmps17
    go_wp2_with fail
    refine (hC _).mono ?_; rintro e w1 ⟨rfl, hb1⟩
    have p10 := rule hb1 (w.heap.size) (by simp <;> omega)
    have p11 := rule hb1 (w.heap.size + 1) (by simp <;> omega)
    have p12 := rule hb1 (w.heap.size + 1 + 1) (by simp <;> omega)
    have q1 := ruleF hb1 (w.heap.size + 1 + 1) (by simp <;> omega)
    have HN1 := Lib.hid (show Nul w1 (w.heap.size + 1 + 1) from Nul.below (alloc_at (by simp)) hb1)
    have HB1 := Lib.hid (bthen (below3 _ _ _ _ ) hb1)
    have hz1 : w.heap.size + 1 + 1 < w1.heap.size := by have := hb1.size; simp at this; omega
    clear hb1
    go_wp2_with fail
    exact bodyPost_ret (results_ob2 Tryd.results17 _ _ (w.heap.size + 1 + 1) rfl rfl (put8 HN1.out _ _ _ _ _ _ _ _).blk) rfl ⟨rfl, below_put8 HB1.out (by omega) (put8 HN1.out _ _ _ _ _ _ _ _)⟩
set_option maxHeartbeats 2000000 in
set_option maxRecDepth 100000 in
theorem two_gt (a b : Ob) (w : World) : Calls Tryd.prog 17 #[.string ⟨#[103, 116]⟩, a.val, b.val] w fun e w' => e = .returned (cmpO (fun x y => decide (y < x)) a b).val ∧ Below w.heap.size w w' := by
    have hC := cmp_any clo_gt a b
    unfold cmpO
    generalize (isNumB a && isNumB b && (fun x y => decide (y < x)) (valI a) (valI b)) = x at *
    generalize (isNumB a && isNumB b) = y at *
    have hT := truth_any x y
    generalize truO x y = r at *
    obtain ⟨ka, xa, ca, na, sa, ra, fa, la⟩ := a
    obtain ⟨kb, xb, cb, nb, sb, rb, fb, lb⟩ := b
    unfold Ob.val Out.val at *
    simp only at *
    go_enter Tryd.func17, Tryd.ntmps17
    go_wp2_with fail
    refine (hC _).mono ?_; rintro e w1 ⟨rfl, hb1⟩
    have p10 := rule hb1 (w.heap.size) (by simp <;> omega)
    have p11 := rule hb1 (w.heap.size + 1) (by simp <;> omega)
    have p12 := rule hb1 (w.heap.size + 1 + 1) (by simp <;> omega)
    have q1 := ruleF hb1 (w.heap.size + 1 + 1) (by simp <;> omega)
    have HN1 := Lib.hid (show Nul w1 (w.heap.size + 1 + 1) from Nul.below (alloc_at (by simp)) hb1)
    have HB1 := Lib.hid (bthen (below3 _ _ _ _ ) hb1)
    have hz1 : w.heap.size + 1 + 1 < w1.heap.size := by have := hb1.size; simp at this; omega
    clear hb1
    go_wp2_with fail
    refine (hT _).mono ?_; rintro e w2 ⟨rfl, hb2⟩
    have p20 := rule hb2 (w.heap.size) (by omega)
    have p21 := rule hb2 (w.heap.size + 1) (by omega)
    have p22 := rule hb2 (w.heap.size + 1 + 1) (by omega)
    have q2 := ruleF hb2 (w.heap.size + 1 + 1) (by omega)
    have HN2 := Lib.hid (HN1.out.below hb2)
    have HB2 := Lib.hid (bthen HB1.out hb2)
    have hz2 : w.heap.size + 1 + 1 < w2.heap.size := by have := hb2.size; omega
    clear hb2
    go_wp2_with fail
    exact bodyPost_ret (results_ob2 Tryd.results17 _ _ (w.heap.size + 1 + 1) rfl rfl (put8 HN2.out _ _ _ _ _ _ _ _).blk) rfl ⟨rfl, below_put8 HB2.out (by omega) (put8 HN2.out _ _ _ _ _ _ _ _)⟩
set_option maxHeartbeats 2000000 in
set_option maxRecDepth 100000 in
theorem two_ge (a b : Ob) (w : World) : Calls Tryd.prog 17 #[.string ⟨#[103, 101]⟩, a.val, b.val] w fun e w' => e = .returned (cmpO (fun x y => decide (y ≤ x)) a b).val ∧ Below w.heap.size w w' := by
    have hC := cmp_any clo_ge a b
    unfold cmpO
    generalize (isNumB a && isNumB b && (fun x y => decide (y ≤ x)) (valI a) (valI b)) = x at *
    generalize (isNumB a && isNumB b) = y at *
    have hT := truth_any x y
    generalize truO x y = r at *
    obtain ⟨ka, xa, ca, na, sa, ra, fa, la⟩ := a
    obtain ⟨kb, xb, cb, nb, sb, rb, fb, lb⟩ := b
    unfold Ob.val Out.val at *
    simp only at *
    go_enter Tryd.func17, Tryd.ntmps17
    go_wp2_with fail
    refine (hC _).mono ?_; rintro e w1 ⟨rfl, hb1⟩
    have p10 := rule hb1 (w.heap.size) (by simp <;> omega)
    have p11 := rule hb1 (w.heap.size + 1) (by simp <;> omega)
    have p12 := rule hb1 (w.heap.size + 1 + 1) (by simp <;> omega)
    have q1 := ruleF hb1 (w.heap.size + 1 + 1) (by simp <;> omega)
    have HN1 := Lib.hid (show Nul w1 (w.heap.size + 1 + 1) from Nul.below (alloc_at (by simp)) hb1)
    have HB1 := Lib.hid (bthen (below3 _ _ _ _ ) hb1)
    have hz1 : w.heap.size + 1 + 1 < w1.heap.size := by have := hb1.size; simp at this; omega
    clear hb1
    go_wp2_with fail
    refine (hT _).mono ?_; rintro e w2 ⟨rfl, hb2⟩
    have p20 := rule hb2 (w.heap.size) (by omega)
    have p21 := rule hb2 (w.heap.size + 1) (by omega)
    have p22 := rule hb2 (w.heap.size + 1 + 1) (by omega)
    have q2 := ruleF hb2 (w.heap.size + 1 + 1) (by omega)
    have HN2 := Lib.hid (HN1.out.below hb2)
    have HB2 := Lib.hid (bthen HB1.out hb2)
    have hz2 : w.heap.size + 1 + 1 < w2.heap.size := by have := hb2.size; omega
    clear hb2
    go_wp2_with fail
    exact bodyPost_ret (results_ob2 Tryd.results17 _ _ (w.heap.size + 1 + 1) rfl rfl (put8 HN2.out _ _ _ _ _ _ _ _).blk) rfl ⟨rfl, below_put8 HB2.out (by omega) (put8 HN2.out _ _ _ _ _ _ _ _)⟩
set_option maxHeartbeats 2000000 in
set_option maxRecDepth 100000 in
theorem two_lt (a b : Ob) (w : World) : Calls Tryd.prog 17 #[.string ⟨#[108, 116]⟩, a.val, b.val] w fun e w' => e = .returned (cmpO (fun x y => decide (x < y)) a b).val ∧ Below w.heap.size w w' := by
    have hC := cmp_any clo_lt2 a b
    unfold cmpO
    generalize (isNumB a && isNumB b && (fun x y => decide (x < y)) (valI a) (valI b)) = x at *
    generalize (isNumB a && isNumB b) = y at *
    have hT := truth_any x y
    generalize truO x y = r at *
    obtain ⟨ka, xa, ca, na, sa, ra, fa, la⟩ := a
    obtain ⟨kb, xb, cb, nb, sb, rb, fb, lb⟩ := b
    unfold Ob.val Out.val at *
    simp only at *
    go_enter Tryd.func17, Tryd.ntmps17
    go_wp2_with fail
    refine (hC _).mono ?_; rintro e w1 ⟨rfl, hb1⟩
    have p10 := rule hb1 (w.heap.size) (by simp <;> omega)
    have p11 := rule hb1 (w.heap.size + 1) (by simp <;> omega)
    have p12 := rule hb1 (w.heap.size + 1 + 1) (by simp <;> omega)
    have q1 := ruleF hb1 (w.heap.size + 1 + 1) (by simp <;> omega)
    have HN1 := Lib.hid (show Nul w1 (w.heap.size + 1 + 1) from Nul.below (alloc_at (by simp)) hb1)
    have HB1 := Lib.hid (bthen (below3 _ _ _ _ ) hb1)
    have hz1 : w.heap.size + 1 + 1 < w1.heap.size := by have := hb1.size; simp at this; omega
    clear hb1
    go_wp2_with fail
    refine (hT _).mono ?_; rintro e w2 ⟨rfl, hb2⟩
    have p20 := rule hb2 (w.heap.size) (by omega)
    have p21 := rule hb2 (w.heap.size + 1) (by omega)
    have p22 := rule hb2 (w.heap.size + 1 + 1) (by omega)
    have q2 := ruleF hb2 (w.heap.size + 1 + 1) (by omega)
    have HN2 := Lib.hid (HN1.out.below hb2)
    have HB2 := Lib.hid (bthen HB1.out hb2)
    have hz2 : w.heap.size + 1 + 1 < w2.heap.size := by have := hb2.size; omega
    clear hb2
    go_wp2_with fail
    exact bodyPost_ret (results_ob2 Tryd.results17 _ _ (w.heap.size + 1 + 1) rfl rfl (put8 HN2.out _ _ _ _ _ _ _ _).blk) rfl ⟨rfl, below_put8 HB2.out (by omega) (put8 HN2.out _ _ _ _ _ _ _ _)⟩
set_option maxHeartbeats 2000000 in
set_option maxRecDepth 100000 in
theorem two_le (a b : Ob) (w : World) : Calls Tryd.prog 17 #[.string ⟨#[108, 101]⟩, a.val, b.val] w fun e w' => e = .returned (cmpO (fun x y => decide (x ≤ y)) a b).val ∧ Below w.heap.size w w' := by
    have hC := cmp_any clo_le a b
    unfold cmpO
    generalize (isNumB a && isNumB b && (fun x y => decide (x ≤ y)) (valI a) (valI b)) = x at *
    generalize (isNumB a && isNumB b) = y at *
    have hT := truth_any x y
    generalize truO x y = r at *
    obtain ⟨ka, xa, ca, na, sa, ra, fa, la⟩ := a
    obtain ⟨kb, xb, cb, nb, sb, rb, fb, lb⟩ := b
    unfold Ob.val Out.val at *
    simp only at *
    go_enter Tryd.func17, Tryd.ntmps17
    go_wp2_with fail
    refine (hC _).mono ?_; rintro e w1 ⟨rfl, hb1⟩
    have p10 := rule hb1 (w.heap.size) (by simp <;> omega)
    have p11 := rule hb1 (w.heap.size + 1) (by simp <;> omega)
    have p12 := rule hb1 (w.heap.size + 1 + 1) (by simp <;> omega)
    have q1 := ruleF hb1 (w.heap.size + 1 + 1) (by simp <;> omega)
    have HN1 := Lib.hid (show Nul w1 (w.heap.size + 1 + 1) from Nul.below (alloc_at (by simp)) hb1)
    have HB1 := Lib.hid (bthen (below3 _ _ _ _ ) hb1)
    have hz1 : w.heap.size + 1 + 1 < w1.heap.size := by have := hb1.size; simp at this; omega
    clear hb1
    go_wp2_with fail
    refine (hT _).mono ?_; rintro e w2 ⟨rfl, hb2⟩
    have p20 := rule hb2 (w.heap.size) (by omega)
    have p21 := rule hb2 (w.heap.size + 1) (by omega)
    have p22 := rule hb2 (w.heap.size + 1 + 1) (by omega)
    have q2 := ruleF hb2 (w.heap.size + 1 + 1) (by omega)
    have HN2 := Lib.hid (HN1.out.below hb2)
    have HB2 := Lib.hid (bthen HB1.out hb2)
    have hz2 : w.heap.size + 1 + 1 < w2.heap.size := by have := hb2.size; omega
    clear hb2
    go_wp2_with fail
    exact bodyPost_ret (results_ob2 Tryd.results17 _ _ (w.heap.size + 1 + 1) rfl rfl (put8 HN2.out _ _ _ _ _ _ _ _).blk) rfl ⟨rfl, below_put8 HB2.out (by omega) (put8 HN2.out _ _ _ _ _ _ _ _)⟩
end Ari
end Go.Proofs.YtgbpldfcahajeaaDoor
