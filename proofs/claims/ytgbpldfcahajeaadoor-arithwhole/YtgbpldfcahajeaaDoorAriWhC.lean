/-
  ArithWhole: its walk (made by genwhole.py).
-/
import Derived.Test.YtgbpldfcahajeaaDoorAriWhA
namespace Go.Proofs.YtgbpldfcahajeaaDoor
open Go.RowKit
open Fx
namespace Ari
set_option maxHeartbeats 1000000 in
set_option maxRecDepth 100000 in
theorem whole_zero_pos_neg (a b : Int) (ha : -32768 ≤ a ∧ a ≤ 32767) (hb : -32768 ≤ b ∧ b ≤ 32767) (q r : Int) (hq : a.tdiv b = q) (hm : a.tmod b = r) (he : q * b + r = a) (hrs : -32768 < r ∧ r < 32768) (hr : r = 0) (has : 0 ≤ a) (hbs : b < 0) (w : World) : Calls Tryd.prog 5 #[.int .i16 a, .int .i16 b] w fun e w' => e = .returned (.bool true) ∧ Below w.heap.size w w' := by
    have fa := (fits_iff a).2 (by omega)
    have fb := (fits_iff b).2 (by omega)
    have hp := small_prod ha hb
    have hA := Lib.hid (fun W => answers_at W)
    have hS := Lib.hid (two_of (num_ok fa fb ((fits_iff _).2 (by omega))) (two_add (mk 1 a) (mk 1 b)))
    have hD' := Lib.hid (two_of (num_ok fa fb ((fits_iff _).2 (by omega))) (two_sub (mk 1 a) (mk 1 b)))
    have hP := Lib.hid (two_of (num_ok fa fb ((fits_iff _).2 (by omega))) (two_mul (mk 1 a) (mk 1 b)))
    have hb0 : b ≠ 0 := by omega
    have eq0 : quoE a b = 0 := by unfold quoE; rw [if_neg (by omega)]
    have er0 : remE a b = 0 := by unfold remE; rw [if_neg hb0]
    have eq1 : quoV a b = q := by unfold quoV; rw [if_neg (by omega), hq]
    have er1 : remV a b = r := by unfold remV; rw [if_neg hb0, hm]
    have hQ := Lib.hid (two_of (ints_ok (V := quoV) (E := quoE) fa fb eq0) (two_idiv (mk 1 a) (mk 1 b)))
    have hR := Lib.hid (two_of (ints_ok (V := remV) (E := remE) fa fb er0) (two_mod (mk 1 a) (mk 1 b)))
    rw [eq1] at hQ
    rw [er1] at hR
    clear fa fb eq0 er0 eq1 er1 hq hm
    have hb' : (b == 0) = false := by simp [hb0]
    have hr' : (r == 0) = true := by simp; omega
    clear hb0
    subst hr
    go_enter Tryd.func5, Tryd.ntmps5
    go_wp2_with fail
    obtain ⟨w0, hw0⟩ : ∃ W, W = ((w.alloc (.cells #[.int .i64 1, .bool false, .int .i64 0, .int .i64 a, .string ⟨#[]⟩, .int .i64 0, .int .i64 0, .int .i64 0] 38)).alloc (.cells #[.int .i64 1, .bool false, .int .i64 0, .int .i64 b, .string ⟨#[]⟩, .int .i64 0, .int .i64 0, .int .i64 0] 38)) := ⟨_, rfl⟩
    rw [← hw0]
    have p00 : ∀ o, w0.cell? ⟨w.heap.size, o, none⟩ = ((w.alloc (.cells #[.int .i64 1, .bool false, .int .i64 0, .int .i64 a, .string ⟨#[]⟩, .int .i64 0, .int .i64 0, .int .i64 0] 38)).alloc (.cells #[.int .i64 1, .bool false, .int .i64 0, .int .i64 b, .string ⟨#[]⟩, .int .i64 0, .int .i64 0, .int .i64 0] 38)).cell? ⟨w.heap.size, o, none⟩ := fun o => by rw [hw0]
    have p01 : ∀ o, w0.cell? ⟨w.heap.size + 1, o, none⟩ = ((w.alloc (.cells #[.int .i64 1, .bool false, .int .i64 0, .int .i64 a, .string ⟨#[]⟩, .int .i64 0, .int .i64 0, .int .i64 0] 38)).alloc (.cells #[.int .i64 1, .bool false, .int .i64 0, .int .i64 b, .string ⟨#[]⟩, .int .i64 0, .int .i64 0, .int .i64 0] 38)).cell? ⟨w.heap.size + 1, o, none⟩ := fun o => by rw [hw0]
    have hz0 : w0.heap.size = w.heap.size + 1 + 1 := by rw [hw0]; simp
    have HB0 := Lib.hid (show Below w.heap.size w w0 from by rw [hw0]; exact below2 _ _ _ )
    clear hw0
    have A0 := at8_two w0 (mk 1 a) (mk 1 b)
    rw [hz0] at A0
    refine (do_two (r := ⟨1, a + b, 0⟩) (a := (mk 1 a)) (b := (mk 1 b)) hS.out A0.1 A0.2).mono ?_
    rintro e w1 hD
    clear A0
    obtain ⟨bk1, hbk1, rfl, hcs⟩ := hD.ok rfl
    have hk1 : bk1 < w1.heap.size := (Array.getElem?_eq_some_iff.1 hcs).1
    clear hbk1
    have c1_3 := blk_cell hcs 3
    simp at c1_3
    clear hcs
    have p1_0 := ruleA hD.below (w.heap.size) (by omega)
    have p1_1 := ruleA hD.below (w.heap.size + 1) (by omega)
    have HB1 := Lib.hid (bthen HB0.out (bthen (below1 _ _) hD.below))
    have hs1 : w0.heap.size ≤ w1.heap.size := by have := hD.below.size; simp at this; omega
    clear hD
    go_wp2_with fail
    refine (do_two (r := ⟨1, a - b, 0⟩) (a := (mk 1 a)) (b := (mk 1 b)) hD'.out (at8_two w1 (mk 1 a) (mk 1 b)).1 (at8_two w1 (mk 1 a) (mk 1 b)).2).mono ?_
    rintro e w2 hD
    obtain ⟨bk2, hbk2, rfl, hcs⟩ := hD.ok rfl
    have hk2 : bk2 < w2.heap.size := (Array.getElem?_eq_some_iff.1 hcs).1
    clear hbk2
    have c2_3 := blk_cell hcs 3
    simp at c2_3
    clear hcs
    have p2_0 := ruleA hD.below (w.heap.size) (by omega)
    have p2_1 := ruleA hD.below (w.heap.size + 1) (by omega)
    have p2_2 := ruleA hD.below (bk1) (by omega)
    have HB2 := Lib.hid (bthen HB1.out (bthen (below1 _ _) hD.below))
    have hs2 : w1.heap.size ≤ w2.heap.size := by have := hD.below.size; simp at this; omega
    clear hD
    go_wp2_with fail
    refine (do_two (r := ⟨1, a * b, 0⟩) (a := (mk 1 a)) (b := (mk 1 b)) hP.out (at8_two w2 (mk 1 a) (mk 1 b)).1 (at8_two w2 (mk 1 a) (mk 1 b)).2).mono ?_
    rintro e w3 hD
    obtain ⟨bk3, hbk3, rfl, hcs⟩ := hD.ok rfl
    have hk3 : bk3 < w3.heap.size := (Array.getElem?_eq_some_iff.1 hcs).1
    clear hbk3
    have c3_3 := blk_cell hcs 3
    simp at c3_3
    clear hcs
    have p3_0 := ruleA hD.below (w.heap.size) (by omega)
    have p3_1 := ruleA hD.below (w.heap.size + 1) (by omega)
    have p3_2 := ruleA hD.below (bk1) (by omega)
    have p3_3 := ruleA hD.below (bk2) (by omega)
    have HB3 := Lib.hid (bthen HB2.out (bthen (below1 _ _) hD.below))
    have hs3 : w2.heap.size ≤ w3.heap.size := by have := hD.below.size; simp at this; omega
    clear hD
    go_wp2_with fail
    refine (hA.out _).mono ?_; rintro e w4 ⟨rfl, hb4⟩
    have p4_0 := rule hb4 (w.heap.size) (by omega)
    have p4_1 := rule hb4 (w.heap.size + 1) (by omega)
    have p4_2 := rule hb4 (bk1) (by omega)
    have p4_3 := rule hb4 (bk2) (by omega)
    have p4_4 := rule hb4 (bk3) (by omega)
    have HB4 := Lib.hid (bthen HB3.out hb4)
    have hs4 : w3.heap.size ≤ w4.heap.size := hb4.size
    clear hb4
    go_wp2_with fail
    refine (do_two (r := ⟨1, q, 0⟩) (a := (mk 1 a)) (b := (mk 1 b)) hQ.out (at8_two w4 (mk 1 a) (mk 1 b)).1 (at8_two w4 (mk 1 a) (mk 1 b)).2).mono ?_
    rintro e w5 hD
    obtain ⟨bk5, hbk5, rfl, hcs⟩ := hD.ok rfl
    have hk5 : bk5 < w5.heap.size := (Array.getElem?_eq_some_iff.1 hcs).1
    clear hbk5
    have c5_3 := blk_cell hcs 3
    simp at c5_3
    clear hcs
    have p5_0 := ruleA hD.below (w.heap.size) (by omega)
    have p5_1 := ruleA hD.below (w.heap.size + 1) (by omega)
    have p5_2 := ruleA hD.below (bk1) (by omega)
    have p5_3 := ruleA hD.below (bk2) (by omega)
    have p5_4 := ruleA hD.below (bk3) (by omega)
    have HB5 := Lib.hid (bthen HB4.out (bthen (below1 _ _) hD.below))
    have hs5 : w4.heap.size ≤ w5.heap.size := by have := hD.below.size; simp at this; omega
    clear hD
    go_wp2_with fail
    refine (do_two (r := ⟨1, 0, 0⟩) (a := (mk 1 a)) (b := (mk 1 b)) hR.out (at8_two w5 (mk 1 a) (mk 1 b)).1 (at8_two w5 (mk 1 a) (mk 1 b)).2).mono ?_
    rintro e w6 hD
    obtain ⟨bk6, hbk6, rfl, hcs⟩ := hD.ok rfl
    have hk6 : bk6 < w6.heap.size := (Array.getElem?_eq_some_iff.1 hcs).1
    clear hbk6
    have c6_3 := blk_cell hcs 3
    simp at c6_3
    clear hcs
    have p6_0 := ruleA hD.below (w.heap.size) (by omega)
    have p6_1 := ruleA hD.below (w.heap.size + 1) (by omega)
    have p6_2 := ruleA hD.below (bk1) (by omega)
    have p6_3 := ruleA hD.below (bk2) (by omega)
    have p6_4 := ruleA hD.below (bk3) (by omega)
    have p6_5 := ruleA hD.below (bk5) (by omega)
    have HB6 := Lib.hid (bthen HB5.out (bthen (below1 _ _) hD.below))
    have hs6 : w5.heap.size ≤ w6.heap.size := by have := hD.below.size; simp at this; omega
    clear hD
    go_wp2_with fail
    go_region
    all_goals go_wp2_with fail
    all_goals go_ret
    all_goals exact ⟨rfl, HB6.out.drew⟩
set_option maxHeartbeats 1000000 in
set_option maxRecDepth 100000 in
theorem whole_zero_pos_pos (a b : Int) (ha : -32768 ≤ a ∧ a ≤ 32767) (hb : -32768 ≤ b ∧ b ≤ 32767) (q r : Int) (hq : a.tdiv b = q) (hm : a.tmod b = r) (he : q * b + r = a) (hrs : -32768 < r ∧ r < 32768) (hr : r = 0) (has : 0 ≤ a) (hbs : 0 < b) (w : World) : Calls Tryd.prog 5 #[.int .i16 a, .int .i16 b] w fun e w' => e = .returned (.bool true) ∧ Below w.heap.size w w' := by
    have fa := (fits_iff a).2 (by omega)
    have fb := (fits_iff b).2 (by omega)
    have hp := small_prod ha hb
    have hA := Lib.hid (fun W => answers_at W)
    have hS := Lib.hid (two_of (num_ok fa fb ((fits_iff _).2 (by omega))) (two_add (mk 1 a) (mk 1 b)))
    have hD' := Lib.hid (two_of (num_ok fa fb ((fits_iff _).2 (by omega))) (two_sub (mk 1 a) (mk 1 b)))
    have hP := Lib.hid (two_of (num_ok fa fb ((fits_iff _).2 (by omega))) (two_mul (mk 1 a) (mk 1 b)))
    have hb0 : b ≠ 0 := by omega
    have eq0 : quoE a b = 0 := by unfold quoE; rw [if_neg (by omega)]
    have er0 : remE a b = 0 := by unfold remE; rw [if_neg hb0]
    have eq1 : quoV a b = q := by unfold quoV; rw [if_neg (by omega), hq]
    have er1 : remV a b = r := by unfold remV; rw [if_neg hb0, hm]
    have hQ := Lib.hid (two_of (ints_ok (V := quoV) (E := quoE) fa fb eq0) (two_idiv (mk 1 a) (mk 1 b)))
    have hR := Lib.hid (two_of (ints_ok (V := remV) (E := remE) fa fb er0) (two_mod (mk 1 a) (mk 1 b)))
    rw [eq1] at hQ
    rw [er1] at hR
    clear fa fb eq0 er0 eq1 er1 hq hm
    have hb' : (b == 0) = false := by simp [hb0]
    have hr' : (r == 0) = true := by simp; omega
    clear hb0
    subst hr
    go_enter Tryd.func5, Tryd.ntmps5
    go_wp2_with fail
    obtain ⟨w0, hw0⟩ : ∃ W, W = ((w.alloc (.cells #[.int .i64 1, .bool false, .int .i64 0, .int .i64 a, .string ⟨#[]⟩, .int .i64 0, .int .i64 0, .int .i64 0] 38)).alloc (.cells #[.int .i64 1, .bool false, .int .i64 0, .int .i64 b, .string ⟨#[]⟩, .int .i64 0, .int .i64 0, .int .i64 0] 38)) := ⟨_, rfl⟩
    rw [← hw0]
    have p00 : ∀ o, w0.cell? ⟨w.heap.size, o, none⟩ = ((w.alloc (.cells #[.int .i64 1, .bool false, .int .i64 0, .int .i64 a, .string ⟨#[]⟩, .int .i64 0, .int .i64 0, .int .i64 0] 38)).alloc (.cells #[.int .i64 1, .bool false, .int .i64 0, .int .i64 b, .string ⟨#[]⟩, .int .i64 0, .int .i64 0, .int .i64 0] 38)).cell? ⟨w.heap.size, o, none⟩ := fun o => by rw [hw0]
    have p01 : ∀ o, w0.cell? ⟨w.heap.size + 1, o, none⟩ = ((w.alloc (.cells #[.int .i64 1, .bool false, .int .i64 0, .int .i64 a, .string ⟨#[]⟩, .int .i64 0, .int .i64 0, .int .i64 0] 38)).alloc (.cells #[.int .i64 1, .bool false, .int .i64 0, .int .i64 b, .string ⟨#[]⟩, .int .i64 0, .int .i64 0, .int .i64 0] 38)).cell? ⟨w.heap.size + 1, o, none⟩ := fun o => by rw [hw0]
    have hz0 : w0.heap.size = w.heap.size + 1 + 1 := by rw [hw0]; simp
    have HB0 := Lib.hid (show Below w.heap.size w w0 from by rw [hw0]; exact below2 _ _ _ )
    clear hw0
    have A0 := at8_two w0 (mk 1 a) (mk 1 b)
    rw [hz0] at A0
    refine (do_two (r := ⟨1, a + b, 0⟩) (a := (mk 1 a)) (b := (mk 1 b)) hS.out A0.1 A0.2).mono ?_
    rintro e w1 hD
    clear A0
    obtain ⟨bk1, hbk1, rfl, hcs⟩ := hD.ok rfl
    have hk1 : bk1 < w1.heap.size := (Array.getElem?_eq_some_iff.1 hcs).1
    clear hbk1
    have c1_3 := blk_cell hcs 3
    simp at c1_3
    clear hcs
    have p1_0 := ruleA hD.below (w.heap.size) (by omega)
    have p1_1 := ruleA hD.below (w.heap.size + 1) (by omega)
    have HB1 := Lib.hid (bthen HB0.out (bthen (below1 _ _) hD.below))
    have hs1 : w0.heap.size ≤ w1.heap.size := by have := hD.below.size; simp at this; omega
    clear hD
    go_wp2_with fail
    refine (do_two (r := ⟨1, a - b, 0⟩) (a := (mk 1 a)) (b := (mk 1 b)) hD'.out (at8_two w1 (mk 1 a) (mk 1 b)).1 (at8_two w1 (mk 1 a) (mk 1 b)).2).mono ?_
    rintro e w2 hD
    obtain ⟨bk2, hbk2, rfl, hcs⟩ := hD.ok rfl
    have hk2 : bk2 < w2.heap.size := (Array.getElem?_eq_some_iff.1 hcs).1
    clear hbk2
    have c2_3 := blk_cell hcs 3
    simp at c2_3
    clear hcs
    have p2_0 := ruleA hD.below (w.heap.size) (by omega)
    have p2_1 := ruleA hD.below (w.heap.size + 1) (by omega)
    have p2_2 := ruleA hD.below (bk1) (by omega)
    have HB2 := Lib.hid (bthen HB1.out (bthen (below1 _ _) hD.below))
    have hs2 : w1.heap.size ≤ w2.heap.size := by have := hD.below.size; simp at this; omega
    clear hD
    go_wp2_with fail
    refine (do_two (r := ⟨1, a * b, 0⟩) (a := (mk 1 a)) (b := (mk 1 b)) hP.out (at8_two w2 (mk 1 a) (mk 1 b)).1 (at8_two w2 (mk 1 a) (mk 1 b)).2).mono ?_
    rintro e w3 hD
    obtain ⟨bk3, hbk3, rfl, hcs⟩ := hD.ok rfl
    have hk3 : bk3 < w3.heap.size := (Array.getElem?_eq_some_iff.1 hcs).1
    clear hbk3
    have c3_3 := blk_cell hcs 3
    simp at c3_3
    clear hcs
    have p3_0 := ruleA hD.below (w.heap.size) (by omega)
    have p3_1 := ruleA hD.below (w.heap.size + 1) (by omega)
    have p3_2 := ruleA hD.below (bk1) (by omega)
    have p3_3 := ruleA hD.below (bk2) (by omega)
    have HB3 := Lib.hid (bthen HB2.out (bthen (below1 _ _) hD.below))
    have hs3 : w2.heap.size ≤ w3.heap.size := by have := hD.below.size; simp at this; omega
    clear hD
    go_wp2_with fail
    refine (hA.out _).mono ?_; rintro e w4 ⟨rfl, hb4⟩
    have p4_0 := rule hb4 (w.heap.size) (by omega)
    have p4_1 := rule hb4 (w.heap.size + 1) (by omega)
    have p4_2 := rule hb4 (bk1) (by omega)
    have p4_3 := rule hb4 (bk2) (by omega)
    have p4_4 := rule hb4 (bk3) (by omega)
    have HB4 := Lib.hid (bthen HB3.out hb4)
    have hs4 : w3.heap.size ≤ w4.heap.size := hb4.size
    clear hb4
    go_wp2_with fail
    refine (do_two (r := ⟨1, q, 0⟩) (a := (mk 1 a)) (b := (mk 1 b)) hQ.out (at8_two w4 (mk 1 a) (mk 1 b)).1 (at8_two w4 (mk 1 a) (mk 1 b)).2).mono ?_
    rintro e w5 hD
    obtain ⟨bk5, hbk5, rfl, hcs⟩ := hD.ok rfl
    have hk5 : bk5 < w5.heap.size := (Array.getElem?_eq_some_iff.1 hcs).1
    clear hbk5
    have c5_3 := blk_cell hcs 3
    simp at c5_3
    clear hcs
    have p5_0 := ruleA hD.below (w.heap.size) (by omega)
    have p5_1 := ruleA hD.below (w.heap.size + 1) (by omega)
    have p5_2 := ruleA hD.below (bk1) (by omega)
    have p5_3 := ruleA hD.below (bk2) (by omega)
    have p5_4 := ruleA hD.below (bk3) (by omega)
    have HB5 := Lib.hid (bthen HB4.out (bthen (below1 _ _) hD.below))
    have hs5 : w4.heap.size ≤ w5.heap.size := by have := hD.below.size; simp at this; omega
    clear hD
    go_wp2_with fail
    refine (do_two (r := ⟨1, 0, 0⟩) (a := (mk 1 a)) (b := (mk 1 b)) hR.out (at8_two w5 (mk 1 a) (mk 1 b)).1 (at8_two w5 (mk 1 a) (mk 1 b)).2).mono ?_
    rintro e w6 hD
    obtain ⟨bk6, hbk6, rfl, hcs⟩ := hD.ok rfl
    have hk6 : bk6 < w6.heap.size := (Array.getElem?_eq_some_iff.1 hcs).1
    clear hbk6
    have c6_3 := blk_cell hcs 3
    simp at c6_3
    clear hcs
    have p6_0 := ruleA hD.below (w.heap.size) (by omega)
    have p6_1 := ruleA hD.below (w.heap.size + 1) (by omega)
    have p6_2 := ruleA hD.below (bk1) (by omega)
    have p6_3 := ruleA hD.below (bk2) (by omega)
    have p6_4 := ruleA hD.below (bk3) (by omega)
    have p6_5 := ruleA hD.below (bk5) (by omega)
    have HB6 := Lib.hid (bthen HB5.out (bthen (below1 _ _) hD.below))
    have hs6 : w5.heap.size ≤ w6.heap.size := by have := hD.below.size; simp at this; omega
    clear hD
    go_wp2_with fail
    go_region
    all_goals go_wp2_with fail
    all_goals go_ret
    all_goals exact ⟨rfl, HB6.out.drew⟩
set_option maxHeartbeats 1000000 in
set_option maxRecDepth 100000 in
theorem whole_pos_pos_neg (a b : Int) (ha : -32768 ≤ a ∧ a ≤ 32767) (hb : -32768 ≤ b ∧ b ≤ 32767) (q r : Int) (hq : a.tdiv b = q) (hm : a.tmod b = r) (he : q * b + r = a) (hqb : -65536 ≤ q * b ∧ q * b ≤ 65536) (hrs : -32768 < r ∧ r < 32768) (hr : 0 < r) (has : 0 ≤ a) (hbs : b < 0) (hlt : r < -b) (w : World) : Calls Tryd.prog 5 #[.int .i16 a, .int .i16 b] w fun e w' => e = .returned (.bool true) ∧ Below w.heap.size w w' := by
    have fa := (fits_iff a).2 (by omega)
    have fb := (fits_iff b).2 (by omega)
    have hp := small_prod ha hb
    have hA := Lib.hid (fun W => answers_at W)
    have hS := Lib.hid (two_of (num_ok fa fb ((fits_iff _).2 (by omega))) (two_add (mk 1 a) (mk 1 b)))
    have hD' := Lib.hid (two_of (num_ok fa fb ((fits_iff _).2 (by omega))) (two_sub (mk 1 a) (mk 1 b)))
    have hP := Lib.hid (two_of (num_ok fa fb ((fits_iff _).2 (by omega))) (two_mul (mk 1 a) (mk 1 b)))
    have hb0 : b ≠ 0 := by omega
    have eq0 : quoE a b = 0 := by unfold quoE; rw [if_neg (by omega)]
    have er0 : remE a b = 0 := by unfold remE; rw [if_neg hb0]
    have eq1 : quoV a b = q := by unfold quoV; rw [if_neg (by omega), hq]
    have er1 : remV a b = r := by unfold remV; rw [if_neg hb0, hm]
    have hQ := Lib.hid (two_of (ints_ok (V := quoV) (E := quoE) fa fb eq0) (two_idiv (mk 1 a) (mk 1 b)))
    have hR := Lib.hid (two_of (ints_ok (V := remV) (E := remE) fa fb er0) (two_mod (mk 1 a) (mk 1 b)))
    rw [eq1] at hQ
    rw [er1] at hR
    clear fa fb eq0 er0 eq1 er1 hq hm
    have hb' : (b == 0) = false := by simp [hb0]
    have hr' : (r == 0) = false := by simp; omega
    clear hb0
    have hd : (decide (r < 0) == decide (a < 0)) = true := by rw [decide_eq_false (show ¬ r < 0 by omega), decide_eq_false (show ¬ a < 0 by omega)]; rfl
    go_enter Tryd.func5, Tryd.ntmps5
    go_wp2_with fail
    obtain ⟨w0, hw0⟩ : ∃ W, W = ((w.alloc (.cells #[.int .i64 1, .bool false, .int .i64 0, .int .i64 a, .string ⟨#[]⟩, .int .i64 0, .int .i64 0, .int .i64 0] 38)).alloc (.cells #[.int .i64 1, .bool false, .int .i64 0, .int .i64 b, .string ⟨#[]⟩, .int .i64 0, .int .i64 0, .int .i64 0] 38)) := ⟨_, rfl⟩
    rw [← hw0]
    have p00 : ∀ o, w0.cell? ⟨w.heap.size, o, none⟩ = ((w.alloc (.cells #[.int .i64 1, .bool false, .int .i64 0, .int .i64 a, .string ⟨#[]⟩, .int .i64 0, .int .i64 0, .int .i64 0] 38)).alloc (.cells #[.int .i64 1, .bool false, .int .i64 0, .int .i64 b, .string ⟨#[]⟩, .int .i64 0, .int .i64 0, .int .i64 0] 38)).cell? ⟨w.heap.size, o, none⟩ := fun o => by rw [hw0]
    have p01 : ∀ o, w0.cell? ⟨w.heap.size + 1, o, none⟩ = ((w.alloc (.cells #[.int .i64 1, .bool false, .int .i64 0, .int .i64 a, .string ⟨#[]⟩, .int .i64 0, .int .i64 0, .int .i64 0] 38)).alloc (.cells #[.int .i64 1, .bool false, .int .i64 0, .int .i64 b, .string ⟨#[]⟩, .int .i64 0, .int .i64 0, .int .i64 0] 38)).cell? ⟨w.heap.size + 1, o, none⟩ := fun o => by rw [hw0]
    have hz0 : w0.heap.size = w.heap.size + 1 + 1 := by rw [hw0]; simp
    have HB0 := Lib.hid (show Below w.heap.size w w0 from by rw [hw0]; exact below2 _ _ _ )
    clear hw0
    have A0 := at8_two w0 (mk 1 a) (mk 1 b)
    rw [hz0] at A0
    refine (do_two (r := ⟨1, a + b, 0⟩) (a := (mk 1 a)) (b := (mk 1 b)) hS.out A0.1 A0.2).mono ?_
    rintro e w1 hD
    clear A0
    obtain ⟨bk1, hbk1, rfl, hcs⟩ := hD.ok rfl
    have hk1 : bk1 < w1.heap.size := (Array.getElem?_eq_some_iff.1 hcs).1
    clear hbk1
    have c1_3 := blk_cell hcs 3
    simp at c1_3
    clear hcs
    have p1_0 := ruleA hD.below (w.heap.size) (by omega)
    have p1_1 := ruleA hD.below (w.heap.size + 1) (by omega)
    have HB1 := Lib.hid (bthen HB0.out (bthen (below1 _ _) hD.below))
    have hs1 : w0.heap.size ≤ w1.heap.size := by have := hD.below.size; simp at this; omega
    clear hD
    go_wp2_with fail
    refine (do_two (r := ⟨1, a - b, 0⟩) (a := (mk 1 a)) (b := (mk 1 b)) hD'.out (at8_two w1 (mk 1 a) (mk 1 b)).1 (at8_two w1 (mk 1 a) (mk 1 b)).2).mono ?_
    rintro e w2 hD
    obtain ⟨bk2, hbk2, rfl, hcs⟩ := hD.ok rfl
    have hk2 : bk2 < w2.heap.size := (Array.getElem?_eq_some_iff.1 hcs).1
    clear hbk2
    have c2_3 := blk_cell hcs 3
    simp at c2_3
    clear hcs
    have p2_0 := ruleA hD.below (w.heap.size) (by omega)
    have p2_1 := ruleA hD.below (w.heap.size + 1) (by omega)
    have p2_2 := ruleA hD.below (bk1) (by omega)
    have HB2 := Lib.hid (bthen HB1.out (bthen (below1 _ _) hD.below))
    have hs2 : w1.heap.size ≤ w2.heap.size := by have := hD.below.size; simp at this; omega
    clear hD
    go_wp2_with fail
    refine (do_two (r := ⟨1, a * b, 0⟩) (a := (mk 1 a)) (b := (mk 1 b)) hP.out (at8_two w2 (mk 1 a) (mk 1 b)).1 (at8_two w2 (mk 1 a) (mk 1 b)).2).mono ?_
    rintro e w3 hD
    obtain ⟨bk3, hbk3, rfl, hcs⟩ := hD.ok rfl
    have hk3 : bk3 < w3.heap.size := (Array.getElem?_eq_some_iff.1 hcs).1
    clear hbk3
    have c3_3 := blk_cell hcs 3
    simp at c3_3
    clear hcs
    have p3_0 := ruleA hD.below (w.heap.size) (by omega)
    have p3_1 := ruleA hD.below (w.heap.size + 1) (by omega)
    have p3_2 := ruleA hD.below (bk1) (by omega)
    have p3_3 := ruleA hD.below (bk2) (by omega)
    have HB3 := Lib.hid (bthen HB2.out (bthen (below1 _ _) hD.below))
    have hs3 : w2.heap.size ≤ w3.heap.size := by have := hD.below.size; simp at this; omega
    clear hD
    go_wp2_with fail
    refine (hA.out _).mono ?_; rintro e w4 ⟨rfl, hb4⟩
    have p4_0 := rule hb4 (w.heap.size) (by omega)
    have p4_1 := rule hb4 (w.heap.size + 1) (by omega)
    have p4_2 := rule hb4 (bk1) (by omega)
    have p4_3 := rule hb4 (bk2) (by omega)
    have p4_4 := rule hb4 (bk3) (by omega)
    have HB4 := Lib.hid (bthen HB3.out hb4)
    have hs4 : w3.heap.size ≤ w4.heap.size := hb4.size
    clear hb4
    go_wp2_with fail
    refine (do_two (r := ⟨1, q, 0⟩) (a := (mk 1 a)) (b := (mk 1 b)) hQ.out (at8_two w4 (mk 1 a) (mk 1 b)).1 (at8_two w4 (mk 1 a) (mk 1 b)).2).mono ?_
    rintro e w5 hD
    obtain ⟨bk5, hbk5, rfl, hcs⟩ := hD.ok rfl
    have hk5 : bk5 < w5.heap.size := (Array.getElem?_eq_some_iff.1 hcs).1
    clear hbk5
    have c5_3 := blk_cell hcs 3
    simp at c5_3
    clear hcs
    have p5_0 := ruleA hD.below (w.heap.size) (by omega)
    have p5_1 := ruleA hD.below (w.heap.size + 1) (by omega)
    have p5_2 := ruleA hD.below (bk1) (by omega)
    have p5_3 := ruleA hD.below (bk2) (by omega)
    have p5_4 := ruleA hD.below (bk3) (by omega)
    have HB5 := Lib.hid (bthen HB4.out (bthen (below1 _ _) hD.below))
    have hs5 : w4.heap.size ≤ w5.heap.size := by have := hD.below.size; simp at this; omega
    clear hD
    go_wp2_with fail
    refine (do_two (r := ⟨1, r, 0⟩) (a := (mk 1 a)) (b := (mk 1 b)) hR.out (at8_two w5 (mk 1 a) (mk 1 b)).1 (at8_two w5 (mk 1 a) (mk 1 b)).2).mono ?_
    rintro e w6 hD
    obtain ⟨bk6, hbk6, rfl, hcs⟩ := hD.ok rfl
    have hk6 : bk6 < w6.heap.size := (Array.getElem?_eq_some_iff.1 hcs).1
    clear hbk6
    have c6_3 := blk_cell hcs 3
    simp at c6_3
    clear hcs
    have p6_0 := ruleA hD.below (w.heap.size) (by omega)
    have p6_1 := ruleA hD.below (w.heap.size + 1) (by omega)
    have p6_2 := ruleA hD.below (bk1) (by omega)
    have p6_3 := ruleA hD.below (bk2) (by omega)
    have p6_4 := ruleA hD.below (bk3) (by omega)
    have p6_5 := ruleA hD.below (bk5) (by omega)
    have HB6 := Lib.hid (bthen HB5.out (bthen (below1 _ _) hD.below))
    have hs6 : w5.heap.size ≤ w6.heap.size := by have := hD.below.size; simp at this; omega
    clear hD
    go_wp2_with fail
    go_region
    all_goals go_wp2_with fail
    all_goals go_ret
    all_goals exact ⟨rfl, HB6.out.drew⟩
set_option maxHeartbeats 1000000 in
set_option maxRecDepth 100000 in
theorem whole_pos_pos_pos (a b : Int) (ha : -32768 ≤ a ∧ a ≤ 32767) (hb : -32768 ≤ b ∧ b ≤ 32767) (q r : Int) (hq : a.tdiv b = q) (hm : a.tmod b = r) (he : q * b + r = a) (hqb : -65536 ≤ q * b ∧ q * b ≤ 65536) (hrs : -32768 < r ∧ r < 32768) (hr : 0 < r) (has : 0 ≤ a) (hbs : 0 < b) (hlt : r < b) (w : World) : Calls Tryd.prog 5 #[.int .i16 a, .int .i16 b] w fun e w' => e = .returned (.bool true) ∧ Below w.heap.size w w' := by
    have fa := (fits_iff a).2 (by omega)
    have fb := (fits_iff b).2 (by omega)
    have hp := small_prod ha hb
    have hA := Lib.hid (fun W => answers_at W)
    have hS := Lib.hid (two_of (num_ok fa fb ((fits_iff _).2 (by omega))) (two_add (mk 1 a) (mk 1 b)))
    have hD' := Lib.hid (two_of (num_ok fa fb ((fits_iff _).2 (by omega))) (two_sub (mk 1 a) (mk 1 b)))
    have hP := Lib.hid (two_of (num_ok fa fb ((fits_iff _).2 (by omega))) (two_mul (mk 1 a) (mk 1 b)))
    have hb0 : b ≠ 0 := by omega
    have eq0 : quoE a b = 0 := by unfold quoE; rw [if_neg (by omega)]
    have er0 : remE a b = 0 := by unfold remE; rw [if_neg hb0]
    have eq1 : quoV a b = q := by unfold quoV; rw [if_neg (by omega), hq]
    have er1 : remV a b = r := by unfold remV; rw [if_neg hb0, hm]
    have hQ := Lib.hid (two_of (ints_ok (V := quoV) (E := quoE) fa fb eq0) (two_idiv (mk 1 a) (mk 1 b)))
    have hR := Lib.hid (two_of (ints_ok (V := remV) (E := remE) fa fb er0) (two_mod (mk 1 a) (mk 1 b)))
    rw [eq1] at hQ
    rw [er1] at hR
    clear fa fb eq0 er0 eq1 er1 hq hm
    have hb' : (b == 0) = false := by simp [hb0]
    have hr' : (r == 0) = false := by simp; omega
    clear hb0
    have hd : (decide (r < 0) == decide (a < 0)) = true := by rw [decide_eq_false (show ¬ r < 0 by omega), decide_eq_false (show ¬ a < 0 by omega)]; rfl
    go_enter Tryd.func5, Tryd.ntmps5
    go_wp2_with fail
    obtain ⟨w0, hw0⟩ : ∃ W, W = ((w.alloc (.cells #[.int .i64 1, .bool false, .int .i64 0, .int .i64 a, .string ⟨#[]⟩, .int .i64 0, .int .i64 0, .int .i64 0] 38)).alloc (.cells #[.int .i64 1, .bool false, .int .i64 0, .int .i64 b, .string ⟨#[]⟩, .int .i64 0, .int .i64 0, .int .i64 0] 38)) := ⟨_, rfl⟩
    rw [← hw0]
    have p00 : ∀ o, w0.cell? ⟨w.heap.size, o, none⟩ = ((w.alloc (.cells #[.int .i64 1, .bool false, .int .i64 0, .int .i64 a, .string ⟨#[]⟩, .int .i64 0, .int .i64 0, .int .i64 0] 38)).alloc (.cells #[.int .i64 1, .bool false, .int .i64 0, .int .i64 b, .string ⟨#[]⟩, .int .i64 0, .int .i64 0, .int .i64 0] 38)).cell? ⟨w.heap.size, o, none⟩ := fun o => by rw [hw0]
    have p01 : ∀ o, w0.cell? ⟨w.heap.size + 1, o, none⟩ = ((w.alloc (.cells #[.int .i64 1, .bool false, .int .i64 0, .int .i64 a, .string ⟨#[]⟩, .int .i64 0, .int .i64 0, .int .i64 0] 38)).alloc (.cells #[.int .i64 1, .bool false, .int .i64 0, .int .i64 b, .string ⟨#[]⟩, .int .i64 0, .int .i64 0, .int .i64 0] 38)).cell? ⟨w.heap.size + 1, o, none⟩ := fun o => by rw [hw0]
    have hz0 : w0.heap.size = w.heap.size + 1 + 1 := by rw [hw0]; simp
    have HB0 := Lib.hid (show Below w.heap.size w w0 from by rw [hw0]; exact below2 _ _ _ )
    clear hw0
    have A0 := at8_two w0 (mk 1 a) (mk 1 b)
    rw [hz0] at A0
    refine (do_two (r := ⟨1, a + b, 0⟩) (a := (mk 1 a)) (b := (mk 1 b)) hS.out A0.1 A0.2).mono ?_
    rintro e w1 hD
    clear A0
    obtain ⟨bk1, hbk1, rfl, hcs⟩ := hD.ok rfl
    have hk1 : bk1 < w1.heap.size := (Array.getElem?_eq_some_iff.1 hcs).1
    clear hbk1
    have c1_3 := blk_cell hcs 3
    simp at c1_3
    clear hcs
    have p1_0 := ruleA hD.below (w.heap.size) (by omega)
    have p1_1 := ruleA hD.below (w.heap.size + 1) (by omega)
    have HB1 := Lib.hid (bthen HB0.out (bthen (below1 _ _) hD.below))
    have hs1 : w0.heap.size ≤ w1.heap.size := by have := hD.below.size; simp at this; omega
    clear hD
    go_wp2_with fail
    refine (do_two (r := ⟨1, a - b, 0⟩) (a := (mk 1 a)) (b := (mk 1 b)) hD'.out (at8_two w1 (mk 1 a) (mk 1 b)).1 (at8_two w1 (mk 1 a) (mk 1 b)).2).mono ?_
    rintro e w2 hD
    obtain ⟨bk2, hbk2, rfl, hcs⟩ := hD.ok rfl
    have hk2 : bk2 < w2.heap.size := (Array.getElem?_eq_some_iff.1 hcs).1
    clear hbk2
    have c2_3 := blk_cell hcs 3
    simp at c2_3
    clear hcs
    have p2_0 := ruleA hD.below (w.heap.size) (by omega)
    have p2_1 := ruleA hD.below (w.heap.size + 1) (by omega)
    have p2_2 := ruleA hD.below (bk1) (by omega)
    have HB2 := Lib.hid (bthen HB1.out (bthen (below1 _ _) hD.below))
    have hs2 : w1.heap.size ≤ w2.heap.size := by have := hD.below.size; simp at this; omega
    clear hD
    go_wp2_with fail
    refine (do_two (r := ⟨1, a * b, 0⟩) (a := (mk 1 a)) (b := (mk 1 b)) hP.out (at8_two w2 (mk 1 a) (mk 1 b)).1 (at8_two w2 (mk 1 a) (mk 1 b)).2).mono ?_
    rintro e w3 hD
    obtain ⟨bk3, hbk3, rfl, hcs⟩ := hD.ok rfl
    have hk3 : bk3 < w3.heap.size := (Array.getElem?_eq_some_iff.1 hcs).1
    clear hbk3
    have c3_3 := blk_cell hcs 3
    simp at c3_3
    clear hcs
    have p3_0 := ruleA hD.below (w.heap.size) (by omega)
    have p3_1 := ruleA hD.below (w.heap.size + 1) (by omega)
    have p3_2 := ruleA hD.below (bk1) (by omega)
    have p3_3 := ruleA hD.below (bk2) (by omega)
    have HB3 := Lib.hid (bthen HB2.out (bthen (below1 _ _) hD.below))
    have hs3 : w2.heap.size ≤ w3.heap.size := by have := hD.below.size; simp at this; omega
    clear hD
    go_wp2_with fail
    refine (hA.out _).mono ?_; rintro e w4 ⟨rfl, hb4⟩
    have p4_0 := rule hb4 (w.heap.size) (by omega)
    have p4_1 := rule hb4 (w.heap.size + 1) (by omega)
    have p4_2 := rule hb4 (bk1) (by omega)
    have p4_3 := rule hb4 (bk2) (by omega)
    have p4_4 := rule hb4 (bk3) (by omega)
    have HB4 := Lib.hid (bthen HB3.out hb4)
    have hs4 : w3.heap.size ≤ w4.heap.size := hb4.size
    clear hb4
    go_wp2_with fail
    refine (do_two (r := ⟨1, q, 0⟩) (a := (mk 1 a)) (b := (mk 1 b)) hQ.out (at8_two w4 (mk 1 a) (mk 1 b)).1 (at8_two w4 (mk 1 a) (mk 1 b)).2).mono ?_
    rintro e w5 hD
    obtain ⟨bk5, hbk5, rfl, hcs⟩ := hD.ok rfl
    have hk5 : bk5 < w5.heap.size := (Array.getElem?_eq_some_iff.1 hcs).1
    clear hbk5
    have c5_3 := blk_cell hcs 3
    simp at c5_3
    clear hcs
    have p5_0 := ruleA hD.below (w.heap.size) (by omega)
    have p5_1 := ruleA hD.below (w.heap.size + 1) (by omega)
    have p5_2 := ruleA hD.below (bk1) (by omega)
    have p5_3 := ruleA hD.below (bk2) (by omega)
    have p5_4 := ruleA hD.below (bk3) (by omega)
    have HB5 := Lib.hid (bthen HB4.out (bthen (below1 _ _) hD.below))
    have hs5 : w4.heap.size ≤ w5.heap.size := by have := hD.below.size; simp at this; omega
    clear hD
    go_wp2_with fail
    refine (do_two (r := ⟨1, r, 0⟩) (a := (mk 1 a)) (b := (mk 1 b)) hR.out (at8_two w5 (mk 1 a) (mk 1 b)).1 (at8_two w5 (mk 1 a) (mk 1 b)).2).mono ?_
    rintro e w6 hD
    obtain ⟨bk6, hbk6, rfl, hcs⟩ := hD.ok rfl
    have hk6 : bk6 < w6.heap.size := (Array.getElem?_eq_some_iff.1 hcs).1
    clear hbk6
    have c6_3 := blk_cell hcs 3
    simp at c6_3
    clear hcs
    have p6_0 := ruleA hD.below (w.heap.size) (by omega)
    have p6_1 := ruleA hD.below (w.heap.size + 1) (by omega)
    have p6_2 := ruleA hD.below (bk1) (by omega)
    have p6_3 := ruleA hD.below (bk2) (by omega)
    have p6_4 := ruleA hD.below (bk3) (by omega)
    have p6_5 := ruleA hD.below (bk5) (by omega)
    have HB6 := Lib.hid (bthen HB5.out (bthen (below1 _ _) hD.below))
    have hs6 : w5.heap.size ≤ w6.heap.size := by have := hD.below.size; simp at this; omega
    clear hD
    go_wp2_with fail
    go_region
    all_goals go_wp2_with fail
    all_goals go_ret
    all_goals exact ⟨rfl, HB6.out.drew⟩
end Ari
end Go.Proofs.YtgbpldfcahajeaaDoor
