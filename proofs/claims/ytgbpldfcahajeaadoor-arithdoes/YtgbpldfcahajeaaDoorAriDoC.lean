/-
  Do at rows of any capacity, and where the operands are not so many (made by genrow.py).
-/
import Derived.Test.YtgbpldfcahajeaaDoorAriUnw
import Derived.Test.YtgbpldfcahajeaaDoorAriDo
namespace Go.Proofs.YtgbpldfcahajeaaDoor
open Go.RowKit
open Fx
namespace Ari
set_option maxHeartbeats 2000000 in
set_option maxRecDepth 100000 in
theorem do_twoC {c : Nat} {nm : ByteArray} {r : Out} {a b : Ob} {B : Nat} {w : World} (hT : ∀ W, Calls Tryd.prog 17 #[.string nm, a.val, b.val] W fun e w' => e = .returned r.val ∧ Below W.heap.size W w') (ha : At8 w B 0 a) (hb : At8 w B 8 b) :
    Calls Tryd.prog 10 #[.string nm, .slice (some ⟨B, 0, none⟩) 2 c] w fun e w' => DoP w r e w' := by
  obtain ⟨w1, hw1⟩ : ∃ W, W = w.alloc (.cells #[.int .i64 0, .bool false, .int .i64 0, .int .i64 0, .string ⟨#[]⟩, .int .i64 0, .int .i64 0, .int .i64 0] 38) := ⟨_, rfl⟩
  have hbl : Below w.heap.size w w1 := by rw [hw1]; exact below1 _ _
  obtain ⟨a0, a1, a2, a3, a4, a5, a6, a7⟩ := ha.below hbl
  obtain ⟨b0, b1, b2, b3, b4, b5, b6, b7⟩ := hb.below hbl
  simp only [Nat.zero_add, Nat.reduceAdd] at *
  have hlt := World.block_lt_of_cell? w1 _ a0
  have HN1 := Lib.hid (show Nul w1 w.heap.size from by rw [hw1]; exact heap_alloc_new w _)
  have p1 : ∀ o, w1.cell? ⟨w.heap.size, o, none⟩ = (w.alloc (.cells #[.int .i64 0, .bool false, .int .i64 0, .int .i64 0, .string ⟨#[]⟩, .int .i64 0, .int .i64 0, .int .i64 0] 38)).cell? ⟨w.heap.size, o, none⟩ := fun o => by rw [hw1]
  have q1 : ∀ o, w1.frozen? ⟨w.heap.size, o, none⟩ = (w.alloc (.cells #[.int .i64 0, .bool false, .int .i64 0, .int .i64 0, .string ⟨#[]⟩, .int .i64 0, .int .i64 0, .int .i64 0] 38)).frozen? ⟨w.heap.size, o, none⟩ := fun o => by rw [hw1]
  have HB1 := Lib.hid hbl
  have hz1 : w.heap.size < w1.heap.size := by rw [hw1]; simp
  obtain ⟨ka, xa, ca, na, sa, ra, fa, la⟩ := a
  obtain ⟨kb, xb, cb, nb, sb, rb, fb, lb⟩ := b
  obtain ⟨k, n, e0⟩ := r
  clear hbl ha hb
  unfold Ob.val Out.val at *
  simp only at *
  by_cases h : e0 = 0
  · subst h
    go_enter Tryd.func10, Tryd.ntmps10
    go_wp2_with fail
    rw [← hw1]
    clear hw1
    go_region_with (with_reducible refine (hT _).mono ?_; rintro e w2 ⟨rfl, hb2⟩; have p2 := ruleD hb2 w.heap.size hz1; have q2 := ruleDF hb2 w.heap.size hz1; have HN2 := Lib.hid (HN1.out.belowD hb2); have HB2 := Lib.hid (bthenD HB1.out hb2); have hz2 : w.heap.size < w2.heap.size := (by have h0 := hb2.size; have h1 : w1.drew.heap.size = w1.heap.size := rfl; omega); clear hb2)
    all_goals go_wp2_with fail
    all_goals go_ret2
    all_goals exact do_ok (put8 HN2.out _ _ _ _ _ _ _ _) HB2.out (Nat.le_refl _)
  · have h' : (e0 == 0) = false := by simpa using h
    go_enter Tryd.func10, Tryd.ntmps10
    go_wp2_with fail
    rw [← hw1]
    clear hw1
    go_region_with (with_reducible refine (hT _).mono ?_; rintro e w2 ⟨rfl, hb2⟩; have p2 := ruleD hb2 w.heap.size hz1; have q2 := ruleDF hb2 w.heap.size hz1; have HN2 := Lib.hid (HN1.out.belowD hb2); have HB2 := Lib.hid (bthenD HB1.out hb2); have hz2 : w.heap.size < w2.heap.size := (by have h0 := hb2.size; have h1 : w1.drew.heap.size = w1.heap.size := rfl; omega); clear hb2)
    all_goals go_wp2_with fail
    all_goals go_ret2
    all_goals exact do_no h (put8 HN2.out _ _ _ _ _ _ _ _) HB2.out (Nat.le_refl _)
set_option maxHeartbeats 2000000 in
set_option maxRecDepth 100000 in
theorem do_oneC {c : Nat} {nm : ByteArray} {r : Out} {a : Ob} {B : Nat} {w : World} (hw : SinT w) (hT : ∀ W, SinT W → Calls Tryd.prog 16 #[.string nm, a.val] W fun e w' => e = .returned r.val ∧ Below W.heap.size W w') (ha : At8 w B 0 a) :
    Calls Tryd.prog 10 #[.string nm, .slice (some ⟨B, 0, none⟩) 1 c] w fun e w' => DoP w r e w' := by
  have HW := Lib.hid hw
  clear hw
  obtain ⟨a0, a1, a2, a3, a4, a5, a6, a7⟩ := ha
  simp only [Nat.zero_add] at *
  have hlt := World.block_lt_of_cell? w _ a0
  obtain ⟨ka, xa, ca, na, sa, ra, fa, la⟩ := a
  obtain ⟨k, n, e0⟩ := r
  unfold Ob.val Out.val at *
  simp only at *
  by_cases h : e0 = 0
  · subst h
    go_enter Tryd.func10, Tryd.ntmps10
    go_wp2_with fail
    refine (hT _ (HW.out.below (below1 _ _))).mono ?_; rintro e w2 ⟨rfl, hb2⟩
    have p2 := rule hb2 w.heap.size (by simp)
    have q2 := ruleF hb2 w.heap.size (by simp)
    have HN2 := Lib.hid (show Nul w2 w.heap.size from Nul.below (heap_alloc_new w _) hb2)
    have HB2 := Lib.hid (bthen (below1 _ _) hb2)
    have hz2 : w.heap.size < w2.heap.size := by have h0 := hb2.size; simp at h0; omega
    clear hb2
    go_wp2_with fail
    go_ret2
    exact do_ok (put8 HN2.out _ _ _ _ _ _ _ _) HB2.out (Nat.le_refl _)
  · have h' : (e0 == 0) = false := by simpa using h
    go_enter Tryd.func10, Tryd.ntmps10
    go_wp2_with fail
    refine (hT _ (HW.out.below (below1 _ _))).mono ?_; rintro e w2 ⟨rfl, hb2⟩
    have p2 := rule hb2 w.heap.size (by simp)
    have q2 := ruleF hb2 w.heap.size (by simp)
    have HN2 := Lib.hid (show Nul w2 w.heap.size from Nul.below (heap_alloc_new w _) hb2)
    have HB2 := Lib.hid (bthen (below1 _ _) hb2)
    have hz2 : w.heap.size < w2.heap.size := by have h0 := hb2.size; simp at h0; omega
    clear hb2
    go_wp2_with fail
    go_ret2
    exact do_no h (put8 HN2.out _ _ _ _ _ _ _ _) HB2.out (Nat.le_refl _)
set_option maxHeartbeats 2000000 in
set_option maxRecDepth 100000 in
theorem do_many {nm : ByteArray} {a : Option Addr} {n c : Nat} (hn : n = 0 ∨ 3 ≤ n) (w : World) : Calls Tryd.prog 10 #[.string nm, .slice a n c] w fun e w' => DoP w (noO 21) e w' := by
  have h1 : ((n : Int) == 1) = false := by simp; omega
  have h2 : ((n : Int) == 2) = false := by simp; omega
  go_enter Tryd.func10, Tryd.ntmps10
  go_wp2_with fail
  go_ret2
  exact ⟨fun e => absurd e (by decide), fun _ => rfl, below1 _ _⟩
end Ari
end Go.Proofs.YtgbpldfcahajeaaDoor
