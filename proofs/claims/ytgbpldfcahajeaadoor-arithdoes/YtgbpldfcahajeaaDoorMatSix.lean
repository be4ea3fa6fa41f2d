/-
  The contracts of Concat (mat and ref01), and of what is worked out as six numbers, or the first error.
-/
import Derived.Test.YtgbpldfcahajeaaDoorMatLeadsW
import Derived.Laws.StructEq
import Derived.Laws.Tables
namespace Go.Proofs.YtgbpldfcahajeaaDoor
open Go.RowKit
open Fx
/-- six numbers and an error, as they are answered -/
def MatE (v0 v1 v2 v3 v4 v5 E : Int) (w : World) (e : Ending) (w' : World) : Prop :=
  e = .returned (.tuple #[.agg #[.int .i64 (sel E v0), .int .i64 (sel E v1), .int .i64 (sel E v2), .int .i64 (sel E v3), .int .i64 (sel E v4), .int .i64 (sel E v5)], .int .i64 E]) ∧ Below w.heap.size w w'
/-- block B of W holds six cells that may be written -/
def Six (W : World) (B : Nat) : Prop := (∀ i, i < 6 → ∃ u, W.cell? ⟨B, i, none⟩ = some u) ∧ ∀ o, W.frozen? ⟨B, o, none⟩ = false
theorem m6_put {B : Nat} {W : World} (h : ∀ i, i < 6 → ∃ u, W.cell? ⟨B, i, none⟩ = some u) (v0 v1 v2 v3 v4 v5 : Value) :
    ((((((W.setCell ⟨B, 0, none⟩ v0).setCell ⟨B, 1, none⟩ v1).setCell ⟨B, 2, none⟩ v2).setCell ⟨B, 3, none⟩ v3).setCell ⟨B, 4, none⟩ v4).setCell ⟨B, 5, none⟩ v5).cell? ⟨B, 0, none⟩ = some v0 ∧ ((((((W.setCell ⟨B, 0, none⟩ v0).setCell ⟨B, 1, none⟩ v1).setCell ⟨B, 2, none⟩ v2).setCell ⟨B, 3, none⟩ v3).setCell ⟨B, 4, none⟩ v4).setCell ⟨B, 5, none⟩ v5).cell? ⟨B, 1, none⟩ = some v1 ∧ ((((((W.setCell ⟨B, 0, none⟩ v0).setCell ⟨B, 1, none⟩ v1).setCell ⟨B, 2, none⟩ v2).setCell ⟨B, 3, none⟩ v3).setCell ⟨B, 4, none⟩ v4).setCell ⟨B, 5, none⟩ v5).cell? ⟨B, 2, none⟩ = some v2 ∧ ((((((W.setCell ⟨B, 0, none⟩ v0).setCell ⟨B, 1, none⟩ v1).setCell ⟨B, 2, none⟩ v2).setCell ⟨B, 3, none⟩ v3).setCell ⟨B, 4, none⟩ v4).setCell ⟨B, 5, none⟩ v5).cell? ⟨B, 3, none⟩ = some v3 ∧ ((((((W.setCell ⟨B, 0, none⟩ v0).setCell ⟨B, 1, none⟩ v1).setCell ⟨B, 2, none⟩ v2).setCell ⟨B, 3, none⟩ v3).setCell ⟨B, 4, none⟩ v4).setCell ⟨B, 5, none⟩ v5).cell? ⟨B, 4, none⟩ = some v4 ∧ ((((((W.setCell ⟨B, 0, none⟩ v0).setCell ⟨B, 1, none⟩ v1).setCell ⟨B, 2, none⟩ v2).setCell ⟨B, 3, none⟩ v3).setCell ⟨B, 4, none⟩ v4).setCell ⟨B, 5, none⟩ v5).cell? ⟨B, 5, none⟩ = some v5 := by
  obtain ⟨u0, h0⟩ := h 0 (by omega)
  obtain ⟨u1, h1⟩ := h 1 (by omega)
  obtain ⟨u2, h2⟩ := h 2 (by omega)
  obtain ⟨u3, h3⟩ := h 3 (by omega)
  obtain ⟨u4, h4⟩ := h 4 (by omega)
  obtain ⟨u5, h5⟩ := h 5 (by omega)
  refine ⟨?_, ?_, ?_, ?_, ?_, ?_⟩
  · rw [World.cell?_setCell_other _ _ _ _ (adr_ne _ _ _ (by omega)), World.cell?_setCell_other _ _ _ _ (adr_ne _ _ _ (by omega)), World.cell?_setCell_other _ _ _ _ (adr_ne _ _ _ (by omega)), World.cell?_setCell_other _ _ _ _ (adr_ne _ _ _ (by omega)), World.cell?_setCell_other _ _ _ _ (adr_ne _ _ _ (by omega)), World.cell?_setCell_same _ _ _ (u := u0)]
    exact h0
  · rw [World.cell?_setCell_other _ _ _ _ (adr_ne _ _ _ (by omega)), World.cell?_setCell_other _ _ _ _ (adr_ne _ _ _ (by omega)), World.cell?_setCell_other _ _ _ _ (adr_ne _ _ _ (by omega)), World.cell?_setCell_other _ _ _ _ (adr_ne _ _ _ (by omega)), World.cell?_setCell_same _ _ _ (u := u1)]
    rw [World.cell?_setCell_other _ _ _ _ (adr_ne _ _ _ (by omega))]; exact h1
  · rw [World.cell?_setCell_other _ _ _ _ (adr_ne _ _ _ (by omega)), World.cell?_setCell_other _ _ _ _ (adr_ne _ _ _ (by omega)), World.cell?_setCell_other _ _ _ _ (adr_ne _ _ _ (by omega)), World.cell?_setCell_same _ _ _ (u := u2)]
    rw [World.cell?_setCell_other _ _ _ _ (adr_ne _ _ _ (by omega)), World.cell?_setCell_other _ _ _ _ (adr_ne _ _ _ (by omega))]; exact h2
  · rw [World.cell?_setCell_other _ _ _ _ (adr_ne _ _ _ (by omega)), World.cell?_setCell_other _ _ _ _ (adr_ne _ _ _ (by omega)), World.cell?_setCell_same _ _ _ (u := u3)]
    rw [World.cell?_setCell_other _ _ _ _ (adr_ne _ _ _ (by omega)), World.cell?_setCell_other _ _ _ _ (adr_ne _ _ _ (by omega)), World.cell?_setCell_other _ _ _ _ (adr_ne _ _ _ (by omega))]; exact h3
  · rw [World.cell?_setCell_other _ _ _ _ (adr_ne _ _ _ (by omega)), World.cell?_setCell_same _ _ _ (u := u4)]
    rw [World.cell?_setCell_other _ _ _ _ (adr_ne _ _ _ (by omega)), World.cell?_setCell_other _ _ _ _ (adr_ne _ _ _ (by omega)), World.cell?_setCell_other _ _ _ _ (adr_ne _ _ _ (by omega)), World.cell?_setCell_other _ _ _ _ (adr_ne _ _ _ (by omega))]; exact h4
  · rw [World.cell?_setCell_same _ _ _ (u := u5)]
    rw [World.cell?_setCell_other _ _ _ _ (adr_ne _ _ _ (by omega)), World.cell?_setCell_other _ _ _ _ (adr_ne _ _ _ (by omega)), World.cell?_setCell_other _ _ _ _ (adr_ne _ _ _ (by omega)), World.cell?_setCell_other _ _ _ _ (adr_ne _ _ _ (by omega)), World.cell?_setCell_other _ _ _ _ (adr_ne _ _ _ (by omega))]; exact h5
theorem but_keep {b : Nat} {w1 w2 : World} {O : Obj} (h : But b (w1.alloc O) w2) (k : Nat) (hk : k < w1.heap.size) (hb : k ≠ b) : ∀ o, w2.cell? ⟨k, o, none⟩ = w1.cell? ⟨k, o, none⟩ := by
  intro o; rw [h.cell k (by simp <;> omega) hb o, World.cell?_alloc_lt _ _ _ hk]
theorem but_new {b : Nat} {w1 w2 : World} {O : Obj} (h : But b (w1.alloc O) w2) (hb : w1.heap.size ≠ b) : ∀ o, w2.cell? ⟨w1.heap.size, o, none⟩ = (w1.alloc O).cell? ⟨w1.heap.size, o, none⟩ := by
  intro o; rw [h.cell w1.heap.size (by simp <;> omega) hb o]
theorem but_size {b : Nat} {w1 w2 : World} {O : Obj} (h : But b (w1.alloc O) w2) : w1.heap.size < w2.heap.size := by have := h.size; simp at this; omega
theorem eq6_same (a b c d e f : Int) (w : World) : (Op.equalIn 10000 79 (.agg #[.int .i64 a, .int .i64 b, .int .i64 c, .int .i64 d, .int .i64 e, .int .i64 f]) (.agg #[.int .i64 a, .int .i64 b, .int .i64 c, .int .i64 d, .int .i64 e, .int .i64 f])).run Tryd.prog w = .ok true w := by
  have u3 := Tryd.underlying3
  have a3 := Tryd.isAgg3
  have z3 := Tryd.sizeOf3
  rw [show (10000 : Nat) = 9999 + 1 from rfl, Op.equalIn]
  simp only [Sem.run_bind, run_underlying Tryd.underlying79, Result.andThen_ok]
  simp only [Std.Legacy.Range.forIn_eq_forIn_range', Std.Legacy.Range.size, Nat.sub_zero, Nat.add_sub_cancel, Nat.div_one, List.range'_succ, List.range'_zero, List.forIn_cons, List.forIn_nil]
  go_simp
end Go.Proofs.YtgbpldfcahajeaaDoor
