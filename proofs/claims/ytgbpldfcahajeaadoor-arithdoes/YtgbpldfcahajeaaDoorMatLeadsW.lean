/-
  The walk of the law MatLeads; the small matrices; what a program that does nothing does not answer.
-/
import Derived.Test.YtgbpldfcahajeaaDoorMatRef
namespace Go.Proofs.YtgbpldfcahajeaaDoor
open Go.RowKit
open Fx
def Mat6 (m0 m1 m2 m3 m4 m5 : Int) (w : World) (e : Ending) (w' : World) : Prop := e = .returned (.agg #[.int .i64 m0, .int .i64 m1, .int .i64 m2, .int .i64 m3, .int .i64 m4, .int .i64 m5]) ∧ Below w.heap.size w w'
/-- behind a block laid and a call: an older cell, and the new block's -/
theorem keepL {w1 w2 : World} {O : Obj} (h : Below (w1.alloc O).heap.size (w1.alloc O) w2) (k : Nat) (hk : k < w1.heap.size) : ∀ o, w2.cell? ⟨k, o, none⟩ = w1.cell? ⟨k, o, none⟩ := by
  intro o; rw [(mcell h).1 _ _ (by simp <;> omega), World.cell?_alloc_lt _ _ _ hk]
theorem newL {w1 w2 : World} {O : Obj} (h : Below (w1.alloc O).heap.size (w1.alloc O) w2) : ∀ o, w2.cell? ⟨w1.heap.size, o, none⟩ = (w1.alloc O).cell? ⟨w1.heap.size, o, none⟩ := by
  intro o; rw [(mcell h).1 _ _ (by simp <;> omega)]
theorem nextB {w w1 w2 : World} {O : Obj} (hw : Below w.heap.size w w1) (h : Below (w1.alloc O).heap.size (w1.alloc O) w2) : Below w.heap.size w w2 := mthen (hw.alloc hw.size O) h
theorem sizeL {w1 w2 : World} {O : Obj} (h : Below (w1.alloc O).heap.size (w1.alloc O) w2) : w1.heap.size < w2.heap.size := by have := h.size; simp at this; omega
end Go.Proofs.YtgbpldfcahajeaaDoor
