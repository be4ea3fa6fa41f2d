/-
  Do, with one operand and with two.
-/
import Derived.Test.YtgbpldfcahajeaaDoorAriOne
namespace Go.Proofs.YtgbpldfcahajeaaDoor
open Go.RowKit
open Fx
namespace Ari
/-- an object's cells in block B from place p on -/
structure At8 (w : World) (B p : Nat) (o : Ob) : Prop where
  c0 : w.cell? ⟨B, p, none⟩ = some (.int .i64 o.kind)
  c1 : w.cell? ⟨B, p + 1, none⟩ = some (.bool o.exec)
  c2 : w.cell? ⟨B, p + 2, none⟩ = some (.int .i64 o.acc)
  c3 : w.cell? ⟨B, p + 3, none⟩ = some (.int .i64 o.n)
  c4 : w.cell? ⟨B, p + 4, none⟩ = some (.string o.name)
  c5 : w.cell? ⟨B, p + 5, none⟩ = some (.int .i64 o.ref)
  c6 : w.cell? ⟨B, p + 6, none⟩ = some (.int .i64 o.frm)
  c7 : w.cell? ⟨B, p + 7, none⟩ = some (.int .i64 o.len)
theorem At8.below {w w' : World} {B p : Nat} {o : Ob} (h : At8 w B p o) (hb : Below w.heap.size w w') : At8 w' B p o := by
  have hlt := World.block_lt_of_cell? w _ h.c0
  have hr := rule hb B hlt
  exact ⟨(hr _).trans h.c0, (hr _).trans h.c1, (hr _).trans h.c2, (hr _).trans h.c3, (hr _).trans h.c4, (hr _).trans h.c5, (hr _).trans h.c6, (hr _).trans h.c7⟩
/-- what Do leaves -/
structure DoP (w : World) (r : Out) (e : Ending) (w' : World) : Prop where
  ok : r.e = 0 → ∃ b, w.heap.size ≤ b ∧ e = .returned (.tuple #[.slice (some ⟨b, 0, none⟩) 1 1, .int .i64 0]) ∧ w'.heap[b]? = some (.cells #[.int .i64 r.k, .bool false, .int .i64 0, .int .i64 r.n, .string ⟨#[]⟩, .int .i64 0, .int .i64 0, .int .i64 0] 38 (0, 0))
  no : r.e ≠ 0 → e = .returned (.tuple #[.slice none 0 0, .int .i64 r.e])
  below : Below w.heap.size w w'
theorem do_ok {w w2 w3 : World} {b : Nat} {k n : Int} {t : TypeId} {v0 v1 v2 v3 v4 v5 v6 v7 : Value} (hp : Put8 w2 b t v0 v1 v2 v3 v4 v5 v6 v7 w3) (hB : Below w.heap.size w w2) (hb : w.heap.size ≤ b) :
    DoP w ⟨k, n, 0⟩ (.returned (.tuple #[.slice (some ⟨w2.heap.size, 0, none⟩) 1 1, .int .i64 0])) (w3.alloc (.cells #[.int .i64 k, .bool false, .int .i64 0, .int .i64 n, .string ⟨#[]⟩, .int .i64 0, .int .i64 0, .int .i64 0] 38)) :=
  ⟨fun _ => ⟨w2.heap.size, hB.size, rfl, alloc_at hp.size⟩, fun h => absurd rfl h, bthen (below_put8 hB hb hp) (below1 _ _)⟩
theorem do_no {w w2 w3 : World} {b : Nat} {k n e0 : Int} {t : TypeId} {v0 v1 v2 v3 v4 v5 v6 v7 : Value} (h : e0 ≠ 0) (hp : Put8 w2 b t v0 v1 v2 v3 v4 v5 v6 v7 w3) (hB : Below w.heap.size w w2) (hb : w.heap.size ≤ b) :
    DoP w ⟨k, n, e0⟩ (.returned (.tuple #[.slice none 0 0, .int .i64 e0])) w3 :=
  ⟨fun e => absurd e h, fun _ => rfl, below_put8 hB hb hp⟩
set_option maxHeartbeats 2000000 in
set_option maxRecDepth 100000 in
theorem do_two {nm : ByteArray} {r : Out} {a b : Ob} {B : Nat} {w : World} (hT : ∀ W, Calls Tryd.prog 17 #[.string nm, a.val, b.val] W fun e w' => e = .returned r.val ∧ Below W.heap.size W w') (ha : At8 w B 0 a) (hb : At8 w B 8 b) :
    Calls Tryd.prog 10 #[.string nm, .slice (some ⟨B, 0, none⟩) 2 2] w fun e w' => DoP w r e w' := by
  obtain ⟨w1, hw1⟩ : ∃ W, W = w.alloc (.cells #[.int .i64 0, .bool false, .int .i64 0, .int .i64 0, .string ⟨#[]⟩, .int .i64 0, .int .i64 0, .int .i64 0] 38) := ⟨_, rfl⟩
  have hbl : Below w.heap.size w w1 := by rw [hw1]; exact below1 _ _
  obtain ⟨a0, a1, a2, a3, a4, a5, a6, a7⟩ := ha.below hbl
  obtain ⟨b0, b1, b2, b3, b4, b5, b6, b7⟩ := hb.below hbl
  simp only [Nat.zero_add, Nat.reduceAdd] at *
  have hlt := World.block_lt_of_cell? w1 _ a0
  have HN1 := Lib.hid (show Nul w1 w.heap.size from by rw [hw1]; exact heap_alloc_new w _)
  have p1 : ∀ o, w1.cell? ⟨w.heap.size, o, none⟩ = (w.alloc (.cells #[.int .i64 0, .bool false, .int .i64 0, .int .i64 0, .string ⟨#[]⟩, .int .i64 0, .int .i64 0, .int .i64 0] 38)).cell? ⟨w.heap.size, o, none⟩ := fun o => by rw [hw1]
  have q1 : ∀ o, w1.frozen? ⟨w.heap.size, o, none⟩ = (w.alloc (.cells #[.int .i64 0, .bool false, .int .i64 0, .int .i64 0, .string ⟨#[]⟩, .int .i64 0, .int .i64 0, .int .i64 0] 38)).frozen? ⟨w.heap.size, o, none⟩ := fun o => by rw [hw1]
  have HB1 := Lib.hid hbl
  have hz1 : w.heap.size < w1.heap.size := by rw [hw1]; simp
  obtain ⟨ka, xa, ca, na, sa, ra, fa, la⟩ := a
  obtain ⟨kb, xb, cb, nb, sb, rb, fb, lb⟩ := b
  obtain ⟨k, n, e0⟩ := r
  clear hbl ha hb
  unfold Ob.val Out.val at *
  simp only at *
  by_cases h : e0 = 0
  · subst h
    go_enter Tryd.func10, Tryd.ntmps10
    go_wp2_with fail
    rw [← hw1]
    clear hw1
    go_region_with (with_reducible refine (hT _).mono ?_; rintro e w2 ⟨rfl, hb2⟩; have p2 := ruleD hb2 w.heap.size hz1; have q2 := ruleDF hb2 w.heap.size hz1; have HN2 := Lib.hid (HN1.out.belowD hb2); have HB2 := Lib.hid (bthenD HB1.out hb2); have hz2 : w.heap.size < w2.heap.size := (by have h0 := hb2.size; have h1 : w1.drew.heap.size = w1.heap.size := rfl; omega); clear hb2)
    all_goals go_wp2_with fail
    all_goals go_ret2
    all_goals exact do_ok (put8 HN2.out _ _ _ _ _ _ _ _) HB2.out (Nat.le_refl _)
  · have h' : (e0 == 0) = false := by simpa using h
    go_enter Tryd.func10, Tryd.ntmps10
    go_wp2_with fail
    rw [← hw1]
    clear hw1
    go_region_with (with_reducible refine (hT _).mono ?_; rintro e w2 ⟨rfl, hb2⟩; have p2 := ruleD hb2 w.heap.size hz1; have q2 := ruleDF hb2 w.heap.size hz1; have HN2 := Lib.hid (HN1.out.belowD hb2); have HB2 := Lib.hid (bthenD HB1.out hb2); have hz2 : w.heap.size < w2.heap.size := (by have h0 := hb2.size; have h1 : w1.drew.heap.size = w1.heap.size := rfl; omega); clear hb2)
    all_goals go_wp2_with fail
    all_goals go_ret2
    all_goals exact do_no h (put8 HN2.out _ _ _ _ _ _ _ _) HB2.out (Nat.le_refl _)
set_option maxHeartbeats 2000000 in
set_option maxRecDepth 100000 in
theorem do_one {nm : ByteArray} {r : Out} {a : Ob} {B : Nat} {w : World} (hT : ∀ W, Calls Tryd.prog 16 #[.string nm, a.val] W fun e w' => e = .returned r.val ∧ Below W.heap.size W w') (ha : At8 w B 0 a) :
    Calls Tryd.prog 10 #[.string nm, .slice (some ⟨B, 0, none⟩) 1 1] w fun e w' => DoP w r e w' := by
  obtain ⟨a0, a1, a2, a3, a4, a5, a6, a7⟩ := ha
  simp only [Nat.zero_add] at *
  have hlt := World.block_lt_of_cell? w _ a0
  obtain ⟨ka, xa, ca, na, sa, ra, fa, la⟩ := a
  obtain ⟨k, n, e0⟩ := r
  unfold Ob.val Out.val at *
  simp only at *
  by_cases h : e0 = 0
  · subst h
    go_enter Tryd.func10, Tryd.ntmps10
    go_wp2_with fail
    refine (hT _).mono ?_; rintro e w2 ⟨rfl, hb2⟩
    have p2 := rule hb2 w.heap.size (by simp)
    have q2 := ruleF hb2 w.heap.size (by simp)
    have HN2 := Lib.hid (show Nul w2 w.heap.size from Nul.below (heap_alloc_new w _) hb2)
    have HB2 := Lib.hid (bthen (below1 _ _) hb2)
    have hz2 : w.heap.size < w2.heap.size := by have h0 := hb2.size; simp at h0; omega
    clear hb2
    go_wp2_with fail
    go_ret2
    exact do_ok (put8 HN2.out _ _ _ _ _ _ _ _) HB2.out (Nat.le_refl _)
  · have h' : (e0 == 0) = false := by simpa using h
    go_enter Tryd.func10, Tryd.ntmps10
    go_wp2_with fail
    refine (hT _).mono ?_; rintro e w2 ⟨rfl, hb2⟩
    have p2 := rule hb2 w.heap.size (by simp)
    have q2 := ruleF hb2 w.heap.size (by simp)
    have HN2 := Lib.hid (show Nul w2 w.heap.size from Nul.below (heap_alloc_new w _) hb2)
    have HB2 := Lib.hid (bthen (below1 _ _) hb2)
    have hz2 : w.heap.size < w2.heap.size := by have h0 := hb2.size; simp at h0; omega
    clear hb2
    go_wp2_with fail
    go_ret2
    exact do_no h (put8 HN2.out _ _ _ _ _ _ _ _) HB2.out (Nat.le_refl _)
end Ari
end Go.Proofs.YtgbpldfcahajeaaDoor
