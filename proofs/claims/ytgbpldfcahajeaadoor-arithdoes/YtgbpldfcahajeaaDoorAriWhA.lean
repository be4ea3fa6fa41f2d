/-
  ArithWhole: its walk (made by genwhole.py).
-/
import Derived.Test.YtgbpldfcahajeaaDoorAriLaw
namespace Go.Proofs.YtgbpldfcahajeaaDoor
open Go.RowKit
open Fx
namespace Ari
theorem isInt_mk {x : Int} (h : fits x = true) : isIntB (mk 1 x) = true := by simp [isIntB, mk, h]
theorem num_ok {F V E : Int → Int → Int} {x y : Int} (hx : fits x = true) (hy : fits y = true) (h : fits (F x y) = true) : numO F V E (mk 1 x) (mk 1 y) = ⟨1, F x y, 0⟩ := by
  unfold numO
  rw [if_pos ⟨by rw [isInt_mk hx, isInt_mk hy]; rfl, h⟩]
  rfl
theorem ints_ok {V E : Int → Int → Int} {x y : Int} (hx : fits x = true) (hy : fits y = true) (h : E x y = 0) : intsO V E (mk 1 x) (mk 1 y) = ⟨1, V x y, 0⟩ := by
  unfold intsO
  rw [if_pos (by rw [isInt_mk hx, isInt_mk hy]; rfl)]
  show madeO 1 (V x y) (E x y) = _
  rw [h]; rfl
theorem ints_no {V E : Int → Int → Int} {x y : Int} (hx : fits x = true) (hy : fits y = true) (h : E x y ≠ 0) : intsO V E (mk 1 x) (mk 1 y) = ⟨0, 0, E x y⟩ := by
  unfold intsO
  rw [if_pos (by rw [isInt_mk hx, isInt_mk hy]; rfl)]
  show madeO 1 (V x y) (E x y) = _
  unfold madeO
  rw [if_neg h]; rfl
theorem bit_ok {F : Int → Int → Int} {x y : Int} (hx : fits x = true) (hy : fits y = true) : bitO F (mk 1 x) (mk 1 y) = ⟨1, F x y, 0⟩ := by
  unfold bitO
  rw [if_pos (.inr (by rw [isInt_mk hx, isInt_mk hy]; rfl))]
  rfl
theorem two_of {o : Out} {r : Out} (h : o = r) {k : Nat} {args : Array Value} (hc : ∀ W, Calls Tryd.prog k args W fun e w' => e = .returned o.val ∧ Below W.heap.size W w') : ∀ W, Calls Tryd.prog k args W fun e w' => e = .returned r.val ∧ Below W.heap.size W w' := h ▸ hc
theorem small_prod {a b : Int} (ha : -32768 ≤ a ∧ a ≤ 32767) (hb : -32768 ≤ b ∧ b ≤ 32767) : -1073741824 ≤ a * b ∧ a * b ≤ 1073741824 := by
  have h : (a * b).natAbs ≤ 32768 * 32768 := by
    rw [Int.natAbs_mul]; exact Nat.mul_le_mul (by omega) (by omega)
  omega
theorem rest_facts {a b : Int} (ha : -32768 ≤ a ∧ a ≤ 32767) (hb : -32768 ≤ b ∧ b ≤ 32767) (h0 : b ≠ 0) :
    a.tdiv b * b + a.tmod b = a ∧ -32768 ≤ a.tdiv b ∧ a.tdiv b ≤ 32768 ∧ -32768 < a.tmod b ∧ a.tmod b < 32768 ∧ (if a.tmod b < 0 then -(a.tmod b) else a.tmod b) < (if b < 0 then -b else b) ∧ (a.tmod b < 0 → a < 0) ∧ (0 < a.tmod b → 0 ≤ a) := by
  have e := Int.mul_tdiv_add_tmod a b
  rw [Int.mul_comm] at e
  have q := tdiv_bd a b 32768 (by omega) (by omega)
  have r := tmod_bd a b h0 32768 (by omega) (by omega)
  have hl : (if a.tmod b < 0 then -(a.tmod b) else a.tmod b) < (if b < 0 then -b else b) := by
    have h1 := Int.natAbs_tmod a b
    have h2 := Nat.mod_lt a.natAbs (show 0 < b.natAbs by omega)
    rw [← h1] at h2
    split <;> split <;> omega
  refine ⟨e, q.1, q.2, by omega, by omega, hl, ?_, ?_⟩
  · intro h
    rcases Int.lt_or_le a 0 with h1 | h1
    · exact h1
    · have := Int.tmod_nonneg b h1; omega
  · intro h
    rcases Int.lt_or_le a 0 with h1 | h1
    · have := Int.tmod_nonneg b (a := -a) (by omega); rw [Int.neg_tmod] at this; omega
    · exact h1
set_option maxHeartbeats 1000000 in
set_option maxRecDepth 100000 in
theorem whole_nul (a : Int) (ha : -32768 ≤ a ∧ a ≤ 32767) (w : World) : Calls Tryd.prog 5 #[.int .i16 a, .int .i16 0] w fun e w' => e = .returned (.bool true) ∧ Below w.heap.size w w' := by
    obtain ⟨b, hb0⟩ : ∃ b : Int, b = 0 := ⟨0, rfl⟩
    have hb : -32768 ≤ b ∧ b ≤ 32767 := by omega
    rw [← hb0]
    have fa := (fits_iff a).2 (by omega)
    have fb := (fits_iff b).2 (by omega)
    have hp := small_prod ha hb
    have hA := Lib.hid (fun W => answers_at W)
    have hS := Lib.hid (two_of (num_ok fa fb ((fits_iff _).2 (by omega))) (two_add (mk 1 a) (mk 1 b)))
    have hD' := Lib.hid (two_of (num_ok fa fb ((fits_iff _).2 (by omega))) (two_sub (mk 1 a) (mk 1 b)))
    have hP := Lib.hid (two_of (num_ok fa fb ((fits_iff _).2 (by omega))) (two_mul (mk 1 a) (mk 1 b)))
    have hQ := Lib.hid (two_of (ints_no (V := quoV) (E := quoE) fa fb (by unfold quoE; rw [if_pos (.inl hb0)]; decide)) (two_idiv (mk 1 a) (mk 1 b)))
    have hR := Lib.hid (two_of (ints_no (V := remV) (E := remE) fa fb (by unfold remE; rw [if_pos hb0]; decide)) (two_mod (mk 1 a) (mk 1 b)))
    have eq1 : quoE a b = 18 := by unfold quoE; rw [if_pos (.inl hb0)]
    have er1 : remE a b = 18 := by unfold remE; rw [if_pos hb0]
    rw [eq1] at hQ
    rw [er1] at hR
    clear fa fb eq1 er1
    have hb' : (b == 0) = true := by simp [hb0]
    clear hb0
    go_enter Tryd.func5, Tryd.ntmps5
    go_wp2_with fail
    obtain ⟨w0, hw0⟩ : ∃ W, W = ((w.alloc (.cells #[.int .i64 1, .bool false, .int .i64 0, .int .i64 a, .string ⟨#[]⟩, .int .i64 0, .int .i64 0, .int .i64 0] 38)).alloc (.cells #[.int .i64 1, .bool false, .int .i64 0, .int .i64 b, .string ⟨#[]⟩, .int .i64 0, .int .i64 0, .int .i64 0] 38)) := ⟨_, rfl⟩
    rw [← hw0]
    have p00 : ∀ o, w0.cell? ⟨w.heap.size, o, none⟩ = ((w.alloc (.cells #[.int .i64 1, .bool false, .int .i64 0, .int .i64 a, .string ⟨#[]⟩, .int .i64 0, .int .i64 0, .int .i64 0] 38)).alloc (.cells #[.int .i64 1, .bool false, .int .i64 0, .int .i64 b, .string ⟨#[]⟩, .int .i64 0, .int .i64 0, .int .i64 0] 38)).cell? ⟨w.heap.size, o, none⟩ := fun o => by rw [hw0]
    have p01 : ∀ o, w0.cell? ⟨w.heap.size + 1, o, none⟩ = ((w.alloc (.cells #[.int .i64 1, .bool false, .int .i64 0, .int .i64 a, .string ⟨#[]⟩, .int .i64 0, .int .i64 0, .int .i64 0] 38)).alloc (.cells #[.int .i64 1, .bool false, .int .i64 0, .int .i64 b, .string ⟨#[]⟩, .int .i64 0, .int .i64 0, .int .i64 0] 38)).cell? ⟨w.heap.size + 1, o, none⟩ := fun o => by rw [hw0]
    have hz0 : w0.heap.size = w.heap.size + 1 + 1 := by rw [hw0]; simp
    have HB0 := Lib.hid (show Below w.heap.size w w0 from by rw [hw0]; exact below2 _ _ _ )
    clear hw0
    have A0 := at8_two w0 (mk 1 a) (mk 1 b)
    rw [hz0] at A0
    refine (do_two (r := ⟨1, a + b, 0⟩) (a := (mk 1 a)) (b := (mk 1 b)) hS.out A0.1 A0.2).mono ?_
    rintro e w1 hD
    clear A0
    obtain ⟨bk1, hbk1, rfl, hcs⟩ := hD.ok rfl
    have hk1 : bk1 < w1.heap.size := (Array.getElem?_eq_some_iff.1 hcs).1
    clear hbk1
    have c1_3 := blk_cell hcs 3
    simp at c1_3
    clear hcs
    have p1_0 := ruleA hD.below (w.heap.size) (by omega)
    have p1_1 := ruleA hD.below (w.heap.size + 1) (by omega)
    have HB1 := Lib.hid (bthen HB0.out (bthen (below1 _ _) hD.below))
    have hs1 : w0.heap.size ≤ w1.heap.size := by have := hD.below.size; simp at this; omega
    clear hD
    go_wp2_with fail
    refine (do_two (r := ⟨1, a - b, 0⟩) (a := (mk 1 a)) (b := (mk 1 b)) hD'.out (at8_two w1 (mk 1 a) (mk 1 b)).1 (at8_two w1 (mk 1 a) (mk 1 b)).2).mono ?_
    rintro e w2 hD
    obtain ⟨bk2, hbk2, rfl, hcs⟩ := hD.ok rfl
    have hk2 : bk2 < w2.heap.size := (Array.getElem?_eq_some_iff.1 hcs).1
    clear hbk2
    have c2_3 := blk_cell hcs 3
    simp at c2_3
    clear hcs
    have p2_0 := ruleA hD.below (w.heap.size) (by omega)
    have p2_1 := ruleA hD.below (w.heap.size + 1) (by omega)
    have p2_2 := ruleA hD.below (bk1) (by omega)
    have HB2 := Lib.hid (bthen HB1.out (bthen (below1 _ _) hD.below))
    have hs2 : w1.heap.size ≤ w2.heap.size := by have := hD.below.size; simp at this; omega
    clear hD
    go_wp2_with fail
    refine (do_two (r := ⟨1, a * b, 0⟩) (a := (mk 1 a)) (b := (mk 1 b)) hP.out (at8_two w2 (mk 1 a) (mk 1 b)).1 (at8_two w2 (mk 1 a) (mk 1 b)).2).mono ?_
    rintro e w3 hD
    obtain ⟨bk3, hbk3, rfl, hcs⟩ := hD.ok rfl
    have hk3 : bk3 < w3.heap.size := (Array.getElem?_eq_some_iff.1 hcs).1
    clear hbk3
    have c3_3 := blk_cell hcs 3
    simp at c3_3
    clear hcs
    have p3_0 := ruleA hD.below (w.heap.size) (by omega)
    have p3_1 := ruleA hD.below (w.heap.size + 1) (by omega)
    have p3_2 := ruleA hD.below (bk1) (by omega)
    have p3_3 := ruleA hD.below (bk2) (by omega)
    have HB3 := Lib.hid (bthen HB2.out (bthen (below1 _ _) hD.below))
    have hs3 : w2.heap.size ≤ w3.heap.size := by have := hD.below.size; simp at this; omega
    clear hD
    go_wp2_with fail
    refine (hA.out _).mono ?_; rintro e w4 ⟨rfl, hb4⟩
    have p4_0 := rule hb4 (w.heap.size) (by omega)
    have p4_1 := rule hb4 (w.heap.size + 1) (by omega)
    have p4_2 := rule hb4 (bk1) (by omega)
    have p4_3 := rule hb4 (bk2) (by omega)
    have p4_4 := rule hb4 (bk3) (by omega)
    have HB4 := Lib.hid (bthen HB3.out hb4)
    have hs4 : w3.heap.size ≤ w4.heap.size := hb4.size
    clear hb4
    go_wp2_with fail
    refine (do_two (r := ⟨0, 0, 18⟩) (a := (mk 1 a)) (b := (mk 1 b)) hQ.out (at8_two w4 (mk 1 a) (mk 1 b)).1 (at8_two w4 (mk 1 a) (mk 1 b)).2).mono ?_
    rintro e w5 hD
    obtain rfl := hD.no (by decide)
    have p5_0 := ruleA hD.below (w.heap.size) (by omega)
    have p5_1 := ruleA hD.below (w.heap.size + 1) (by omega)
    have p5_2 := ruleA hD.below (bk1) (by omega)
    have p5_3 := ruleA hD.below (bk2) (by omega)
    have p5_4 := ruleA hD.below (bk3) (by omega)
    have HB5 := Lib.hid (bthen HB4.out (bthen (below1 _ _) hD.below))
    have hs5 : w4.heap.size ≤ w5.heap.size := by have := hD.below.size; simp at this; omega
    clear hD
    go_wp2_with fail
    refine (do_two (r := ⟨0, 0, 18⟩) (a := (mk 1 a)) (b := (mk 1 b)) hR.out (at8_two w5 (mk 1 a) (mk 1 b)).1 (at8_two w5 (mk 1 a) (mk 1 b)).2).mono ?_
    rintro e w6 hD
    obtain rfl := hD.no (by decide)
    have p6_0 := ruleA hD.below (w.heap.size) (by omega)
    have p6_1 := ruleA hD.below (w.heap.size + 1) (by omega)
    have p6_2 := ruleA hD.below (bk1) (by omega)
    have p6_3 := ruleA hD.below (bk2) (by omega)
    have p6_4 := ruleA hD.below (bk3) (by omega)
    have HB6 := Lib.hid (bthen HB5.out (bthen (below1 _ _) hD.below))
    have hs6 : w5.heap.size ≤ w6.heap.size := by have := hD.below.size; simp at this; omega
    clear hD
    go_wp2_with fail
    go_ret
    exact ⟨rfl, HB6.out⟩
end Ari
end Go.Proofs.YtgbpldfcahajeaaDoor
