/-
  ArithBits: its walk (made by genbits.py).
-/
import Derived.Test.YtgbpldfcahajeaaDoorAriWhA
import Derived.Test.YtgbpldfcahajeaaDoorAriBitM
namespace Go.Proofs.YtgbpldfcahajeaaDoor
open Go.RowKit
open Fx
namespace Ari
theorem ruleQ {W w1 : World} {X : Obj} {q : Nat} (hb : Below ((W.drewN q).alloc X).heap.size ((W.drewN q).alloc X) w1) (k : Nat) (hk : k < W.heap.size) : ∀ o, w1.cell? ⟨k, o, none⟩ = W.cell? ⟨k, o, none⟩ := fun o => (ruleA hb k (by simp; omega) o).trans (by simp)
theorem one_of {o : Out} {r : Out} (h : o = r) {k : Nat} {args : Array Value} (hc : ∀ W, Calls Tryd.prog k args W fun e w' => e = .returned o.val ∧ Below W.heap.size W w') : ∀ W, Calls Tryd.prog k args W fun e w' => e = .returned r.val ∧ Below W.heap.size W w' := h ▸ hc
theorem not_ok {x : Int} (hx : fits x = true) : notO (mk 1 x) = ⟨1, -1 - x, 0⟩ := by
  unfold notO
  rw [if_neg (show ¬ (mk 1 x).kind = 3 by simp [mk]), bit_ok hx (by decide), xor_ones hx]
set_option maxHeartbeats 1000000 in
set_option maxRecDepth 100000 in
theorem bits_walk (a b c : Int) (ha : -2147483648 ≤ a ∧ a ≤ 2147483647) (hb : -2147483648 ≤ b ∧ b ≤ 2147483647) (hc : 0 ≤ c ∧ c ≤ 255) (w : World) : Calls Tryd.prog 6 #[.int .i32 a, .int .i32 b, .int .u8 c] w fun e w' => e = .returned (.bool true) ∧ Below w.heap.size w w' := by
    have fa := (fits_iff a).2 (by omega)
    have fb := (fits_iff b).2 (by omega)
    have hA := Lib.hid (fun W => answers_at W)
    have e3 := or_sub_and (b32 a) (b32 b)
    have f1 := fits_toInt (b32 a &&& b32 b)
    have f2 := fits_toInt (b32 a ||| b32 b)
    have f3 := fits_toInt (b32 a ^^^ b32 b)
    have g1 := and_bits fa fb
    have g2 := or_bits fa fb
    have g3 := xor_bits fa fb
    rw [← g1, ← g2, ← g3] at e3
    rw [← g1] at f1
    rw [← g2] at f2
    rw [← g3] at f3
    clear g1 g2 g3
    have hAnd := Lib.hid (two_of (bit_ok (F := fun x y => bits .and .i64 x y) fa fb) (two_and (mk 1 a) (mk 1 b)))
    have hOr := Lib.hid (two_of (bit_ok (F := fun x y => bits .or .i64 x y) fa fb) (two_or (mk 1 a) (mk 1 b)))
    have hXor := Lib.hid (two_of (bit_ok (F := fun x y => bits .xor .i64 x y) fa fb) (two_xor (mk 1 a) (mk 1 b)))
    have hNot := Lib.hid (one_of (not_ok fa) (one_not (mk 1 a)))
    rw [← e3] at hXor f3
    clear e3
    generalize bits .and .i64 a b = n1 at *
    generalize bits .or .i64 a b = n2 at *
    have hSub := Lib.hid (two_of (num_ok (F := fun x y => x - y) f2 f1 f3) (two_sub (mk 1 n2) (mk 1 n1)))
    obtain ⟨n1a, n1b⟩ := (fits_iff n1).1 f1
    obtain ⟨n2a, n2b⟩ := (fits_iff n2).1 f2
    obtain ⟨k, hk⟩ : ∃ k : Int, c % 32 = k := ⟨_, rfl⟩
    have hkb : 0 ≤ k ∧ k ≤ 31 := by omega
    have fk := (fits_iff k).2 (by omega)
    have fm := (fits_iff (-k)).2 (by omega)
    have ht : 0 ≤ a % 4294967296 * 2 ^ k.toNat % 4294967296 ∧ a % 4294967296 * 2 ^ k.toNat % 4294967296 < 4294967296 := by omega
    have hUp := two_of (ints_ok (V := shiV) (E := fun _ _ => 0) fa fk rfl) (two_bitshift (mk 1 a) (mk 1 k))
    rw [shi_up hkb] at hUp
    have hDown := two_of (ints_ok (V := shiV) (E := fun _ _ => 0) (wrap32_fits (a % 4294967296 * 2 ^ k.toNat % 4294967296)) fm rfl) (two_bitshift (mk 1 (wrap32 (a % 4294967296 * 2 ^ k.toNat % 4294967296))) (mk 1 (-k)))
    rw [shi_down ht hkb] at hDown
    have HUp := Lib.hid hUp
    have HDown := Lib.hid hDown
    clear fa fb f1 f2 f3 fk fm hUp hDown ht
    have hw1 : IntKind.i64.wrap a = a := by rw [IntKind.wrap_i64]; omega
    have hw2 : IntKind.i64.wrap (-1 - a) = -1 - a := by rw [IntKind.wrap_i64]; omega
    have hw3 : ∀ z : Int, wrap64 (wrap32 z) = wrap32 z := wrap64_32
    go_enter Tryd.func6, Tryd.ntmps6
    go_wp2_with fail
    obtain ⟨w0, hw0⟩ : ∃ W, W = ((w.alloc (.cells #[.int .i64 1, .bool false, .int .i64 0, .int .i64 a, .string ⟨#[]⟩, .int .i64 0, .int .i64 0, .int .i64 0] 38)).alloc (.cells #[.int .i64 1, .bool false, .int .i64 0, .int .i64 b, .string ⟨#[]⟩, .int .i64 0, .int .i64 0, .int .i64 0] 38)) := ⟨_, rfl⟩
    rw [← hw0]
    have p0_0 : ∀ o, w0.cell? ⟨w.heap.size, o, none⟩ = (#[.int .i64 1, .bool false, .int .i64 0, .int .i64 a, .string ⟨#[]⟩, .int .i64 0, .int .i64 0, .int .i64 0] : Array Value)[o]? := fun o => by rw [hw0]; exact blk_cell (by rw [heap_alloc_old _ _ (by simp)]; exact heap_alloc_new w _) o
    have p0_1 : ∀ o, w0.cell? ⟨w.heap.size + 1, o, none⟩ = (#[.int .i64 1, .bool false, .int .i64 0, .int .i64 b, .string ⟨#[]⟩, .int .i64 0, .int .i64 0, .int .i64 0] : Array Value)[o]? := fun o => by rw [hw0]; exact blk_cell (alloc_at (by simp)) o
    have hz0 : w0.heap.size = w.heap.size + 1 + 1 := by rw [hw0]; simp
    have HB0 := Lib.hid (show Below w.heap.size w w0 from by rw [hw0]; exact below2 _ _ _ )
    clear hw0
    have A0 := at8_two w0 (mk 1 a) (mk 1 b)
    rw [hz0] at A0
    refine (do_two (r := ⟨1, n1, 0⟩) (a := (mk 1 a)) (b := (mk 1 b)) hAnd.out A0.1 A0.2).mono ?_
    rintro e w1 hD
    clear A0
    obtain ⟨bk1, hbk1, rfl, hcs⟩ := hD.ok rfl
    have hk1 : bk1 < w1.heap.size := (Array.getElem?_eq_some_iff.1 hcs).1
    clear hbk1
    have p1_0 := fun o => (ruleA hD.below (w.heap.size) (by omega) o).trans (p0_0 o)
    have p1_1 := fun o => (ruleA hD.below (w.heap.size + 1) (by omega) o).trans (p0_1 o)
    clear p0_0 p0_1
    have p1_2 := fun o => blk_cell hcs o
    clear hcs
    dsimp only at p1_2
    have HB1 := Lib.hid (bthen HB0.out (bthen (below1 _ _) hD.below))
    have hs1 : w0.heap.size ≤ w1.heap.size := by have := hD.below.size; simp at this; omega
    clear hD
    go_wp2_with fail
    refine (do_two (r := ⟨1, n2, 0⟩) (a := (mk 1 a)) (b := (mk 1 b)) hOr.out (at8_two w1 (mk 1 a) (mk 1 b)).1 (at8_two w1 (mk 1 a) (mk 1 b)).2).mono ?_
    rintro e w2 hD
    obtain ⟨bk2, hbk2, rfl, hcs⟩ := hD.ok rfl
    have hk2 : bk2 < w2.heap.size := (Array.getElem?_eq_some_iff.1 hcs).1
    clear hbk2
    have p2_0 := fun o => (ruleA hD.below (w.heap.size) (by omega) o).trans (p1_0 o)
    have p2_1 := fun o => (ruleA hD.below (w.heap.size + 1) (by omega) o).trans (p1_1 o)
    have p2_2 := fun o => (ruleA hD.below (bk1) (by omega) o).trans (p1_2 o)
    clear p1_0 p1_1 p1_2
    have p2_3 := fun o => blk_cell hcs o
    clear hcs
    dsimp only at p2_3
    have HB2 := Lib.hid (bthen HB1.out (bthen (below1 _ _) hD.below))
    have hs2 : w1.heap.size ≤ w2.heap.size := by have := hD.below.size; simp at this; omega
    clear hD
    go_wp2_with fail
    refine (do_two (r := ⟨1, n2 - n1, 0⟩) (a := (mk 1 a)) (b := (mk 1 b)) hXor.out (at8_two w2 (mk 1 a) (mk 1 b)).1 (at8_two w2 (mk 1 a) (mk 1 b)).2).mono ?_
    rintro e w3 hD
    obtain ⟨bk3, hbk3, rfl, hcs⟩ := hD.ok rfl
    have hk3 : bk3 < w3.heap.size := (Array.getElem?_eq_some_iff.1 hcs).1
    clear hbk3
    have p3_0 := fun o => (ruleA hD.below (w.heap.size) (by omega) o).trans (p2_0 o)
    have p3_1 := fun o => (ruleA hD.below (w.heap.size + 1) (by omega) o).trans (p2_1 o)
    have p3_2 := fun o => (ruleA hD.below (bk1) (by omega) o).trans (p2_2 o)
    have p3_3 := fun o => (ruleA hD.below (bk2) (by omega) o).trans (p2_3 o)
    clear p2_0 p2_1 p2_2 p2_3
    have p3_4 := fun o => blk_cell hcs o
    clear hcs
    dsimp only at p3_4
    have HB3 := Lib.hid (bthen HB2.out (bthen (below1 _ _) hD.below))
    have hs3 : w2.heap.size ≤ w3.heap.size := by have := hD.below.size; simp at this; omega
    clear hD
    go_wp2_with fail
    refine (do_one (r := ⟨1, -1 - a, 0⟩) (a := (mk 1 a)) hNot.out (at8_one w3 (mk 1 a))).mono ?_
    rintro e w4 hD
    obtain ⟨bk4, hbk4, rfl, hcs⟩ := hD.ok rfl
    have hk4 : bk4 < w4.heap.size := (Array.getElem?_eq_some_iff.1 hcs).1
    clear hbk4
    have p4_0 := fun o => (ruleA hD.below (w.heap.size) (by omega) o).trans (p3_0 o)
    have p4_1 := fun o => (ruleA hD.below (w.heap.size + 1) (by omega) o).trans (p3_1 o)
    have p4_2 := fun o => (ruleA hD.below (bk1) (by omega) o).trans (p3_2 o)
    have p4_3 := fun o => (ruleA hD.below (bk2) (by omega) o).trans (p3_3 o)
    have p4_4 := fun o => (ruleA hD.below (bk3) (by omega) o).trans (p3_4 o)
    clear p3_0 p3_1 p3_2 p3_3 p3_4
    have p4_5 := fun o => blk_cell hcs o
    clear hcs
    dsimp only at p4_5
    have HB4 := Lib.hid (bthen HB3.out (bthen (below1 _ _) hD.below))
    have hs4 : w3.heap.size ≤ w4.heap.size := by have := hD.below.size; simp at this; omega
    clear hD
    go_wp2_with fail
    refine (hA.out _).mono ?_; rintro e w5 ⟨rfl, hb5⟩
    have p5_0 := fun o => (rule hb5 (w.heap.size) (by omega) o).trans (p4_0 o)
    have p5_1 := fun o => (rule hb5 (w.heap.size + 1) (by omega) o).trans (p4_1 o)
    have p5_2 := fun o => (rule hb5 (bk1) (by omega) o).trans (p4_2 o)
    have p5_3 := fun o => (rule hb5 (bk2) (by omega) o).trans (p4_3 o)
    have p5_4 := fun o => (rule hb5 (bk3) (by omega) o).trans (p4_4 o)
    have p5_5 := fun o => (rule hb5 (bk4) (by omega) o).trans (p4_5 o)
    clear p4_0 p4_1 p4_2 p4_3 p4_4 p4_5
    have HB5 := Lib.hid (bthen HB4.out hb5)
    have hs5 : w4.heap.size ≤ w5.heap.size := hb5.size
    clear hb5
    go_wp2_with fail
    go_region_with (refine (do_two (r := ⟨1, n2 - n1, 0⟩) (a := mk 1 n2) (b := mk 1 n1) hSub.out (at8_two w5.drew (mk 1 n2) (mk 1 n1)).1 (at8_two w5.drew (mk 1 n2) (mk 1 n1)).2).mono ?_; rintro e w6 hD; obtain ⟨bk6, hbk6, rfl, hcs⟩ := hD.ok rfl; have hk6 : bk6 < w6.heap.size := (Array.getElem?_eq_some_iff.1 hcs).1; clear hbk6; have p6_0 := fun o => (ruleA hD.below (w.heap.size) (show _ < w5.heap.size by omega) o).trans (p5_0 o); have p6_1 := fun o => (ruleA hD.below (w.heap.size + 1) (show _ < w5.heap.size by omega) o).trans (p5_1 o); have p6_2 := fun o => (ruleA hD.below (bk1) (show _ < w5.heap.size by omega) o).trans (p5_2 o); have p6_3 := fun o => (ruleA hD.below (bk2) (show _ < w5.heap.size by omega) o).trans (p5_3 o); have p6_4 := fun o => (ruleA hD.below (bk3) (show _ < w5.heap.size by omega) o).trans (p5_4 o); have p6_5 := fun o => (ruleA hD.below (bk4) (show _ < w5.heap.size by omega) o).trans (p5_5 o); clear p5_0 p5_1 p5_2 p5_3 p5_4 p5_5; have p6_6 := fun o => blk_cell hcs o; clear hcs; dsimp only at p6_6; have HB6 := Lib.hid (bthen HB5.out.drew (bthen (below1 _ _) hD.below)); have hs6 : w5.heap.size ≤ w6.heap.size := (by have h0 := hD.below.size; have h1 : w5.drew.heap.size = w5.heap.size := rfl; simp at h0; omega); clear hD)
    all_goals go_wp2_with fail
    all_goals go_quiet (fail)
    all_goals go_wp2_with fail
    all_goals (
      refine (do_two (r := ⟨1, (wrap32 (a % 4294967296 * 2 ^ k.toNat % 4294967296)), 0⟩) (a := (mk 1 a)) (b := (mk 1 k)) HUp.out (at8_two _ (mk 1 a) (mk 1 k)).1 (at8_two _ (mk 1 a) (mk 1 k)).2).mono ?_
      rintro e w7 hD
      obtain ⟨bk7, hbk7, rfl, hcs⟩ := hD.ok rfl
      have hk7 : bk7 < w7.heap.size := (Array.getElem?_eq_some_iff.1 hcs).1
      clear hbk7
      have p7_0 := fun o => (ruleQ hD.below (w.heap.size) (show _ < w6.heap.size by omega) o).trans (p6_0 o)
      have p7_1 := fun o => (ruleQ hD.below (w.heap.size + 1) (show _ < w6.heap.size by omega) o).trans (p6_1 o)
      have p7_2 := fun o => (ruleQ hD.below (bk1) (show _ < w6.heap.size by omega) o).trans (p6_2 o)
      have p7_3 := fun o => (ruleQ hD.below (bk2) (show _ < w6.heap.size by omega) o).trans (p6_3 o)
      have p7_4 := fun o => (ruleQ hD.below (bk3) (show _ < w6.heap.size by omega) o).trans (p6_4 o)
      have p7_5 := fun o => (ruleQ hD.below (bk4) (show _ < w6.heap.size by omega) o).trans (p6_5 o)
      have p7_6 := fun o => (ruleQ hD.below (bk6) (show _ < w6.heap.size by omega) o).trans (p6_6 o)
      clear p6_0 p6_1 p6_2 p6_3 p6_4 p6_5 p6_6
      have p7_7 := fun o => blk_cell hcs o
      clear hcs
      dsimp only at p7_7
      have HB7 := Lib.hid (bthen (below_draw HB6.out _) (bthen (below1 _ _) hD.below))
      have hs7 : w6.heap.size ≤ w7.heap.size := by have := hD.below.size; simp at this; omega
      clear hD
      go_wp2_with fail
      refine (do_two (r := ⟨1, (wrap32 (a % 4294967296 * 2 ^ k.toNat % 4294967296 / 2 ^ k.toNat)), 0⟩) (a := (mk 1 (wrap32 (a % 4294967296 * 2 ^ k.toNat % 4294967296)))) (b := (mk 1 (-k))) HDown.out (at8_two w7 (mk 1 (wrap32 (a % 4294967296 * 2 ^ k.toNat % 4294967296))) (mk 1 (-k))).1 (at8_two w7 (mk 1 (wrap32 (a % 4294967296 * 2 ^ k.toNat % 4294967296))) (mk 1 (-k))).2).mono ?_
      rintro e w8 hD
      obtain ⟨bk8, hbk8, rfl, hcs⟩ := hD.ok rfl
      have hk8 : bk8 < w8.heap.size := (Array.getElem?_eq_some_iff.1 hcs).1
      clear hbk8
      have p8_0 := fun o => (ruleA hD.below (w.heap.size) (by omega) o).trans (p7_0 o)
      have p8_1 := fun o => (ruleA hD.below (w.heap.size + 1) (by omega) o).trans (p7_1 o)
      have p8_2 := fun o => (ruleA hD.below (bk1) (by omega) o).trans (p7_2 o)
      have p8_3 := fun o => (ruleA hD.below (bk2) (by omega) o).trans (p7_3 o)
      have p8_4 := fun o => (ruleA hD.below (bk3) (by omega) o).trans (p7_4 o)
      have p8_5 := fun o => (ruleA hD.below (bk4) (by omega) o).trans (p7_5 o)
      have p8_6 := fun o => (ruleA hD.below (bk6) (by omega) o).trans (p7_6 o)
      have p8_7 := fun o => (ruleA hD.below (bk7) (by omega) o).trans (p7_7 o)
      clear p7_0 p7_1 p7_2 p7_3 p7_4 p7_5 p7_6 p7_7
      have p8_8 := fun o => blk_cell hcs o
      clear hcs
      dsimp only at p8_8
      have HB8 := Lib.hid (bthen HB7.out (bthen (below1 _ _) hD.below))
      have hs8 : w7.heap.size ≤ w8.heap.size := by have := hD.below.size; simp at this; omega
      clear hD
      go_wp2_with fail
      go_ret
      exact ⟨rfl, HB8.out⟩)
end Ari
end Go.Proofs.YtgbpldfcahajeaaDoor
