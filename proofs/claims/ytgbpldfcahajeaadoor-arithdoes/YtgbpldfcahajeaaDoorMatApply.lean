/-
  The contracts of Apply and Delta (mat and ref01).
-/
import Derived.Test.YtgbpldfcahajeaaDoorMatLead
namespace Go.Proofs.YtgbpldfcahajeaaDoor
open Go.RowKit
open Fx
theorem mthen {a b c : World} (h : Below a.heap.size a b) (k : Below b.heap.size b c) : Below a.heap.size a c := h.trans (k.mono h.size)
theorem mcell {W w1 : World} (hb : Below W.heap.size W w1) : (∀ b o, b < W.heap.size → w1.cell? ⟨b, o, none⟩ = W.cell? ⟨b, o, none⟩) ∧ (∀ b o, b < W.heap.size → w1.frozen? ⟨b, o, none⟩ = W.frozen? ⟨b, o, none⟩) :=
  ⟨fun b o h => hb.cell (p := ⟨b, o, none⟩) h, fun b o h => hb.frozen (p := ⟨b, o, none⟩) h⟩
/-- a cell that was there when a block was laid behind it and something was called -/
theorem later_cell {b k o : Nat} {W w1 w3 : World} {O : Obj} {v : Value} (h : W.cell? ⟨k, o, none⟩ = some v) (hb : But b W w1) (hk : k ≠ b) (h3 : Below (w1.alloc O).heap.size (w1.alloc O) w3) : w3.cell? ⟨k, o, none⟩ = some v := by
  have hlt : k < W.heap.size := World.block_lt_of_cell? W _ h
  have hl1 : k < w1.heap.size := Nat.lt_of_lt_of_le hlt hb.size
  rw [(mcell h3).1 _ _ (by simp <;> omega), World.cell?_alloc_lt _ _ _ hl1, hb.cell k hlt hk o]; exact h
theorem later_frozen {b k : Nat} {W w1 w3 : World} {cs : Array Value} {T : TypeId} (hlt : k < W.heap.size) (h : ∀ o, W.frozen? ⟨k, o, none⟩ = false) (hb : But b W w1) (hk : k ≠ b) (h3 : Below (w1.alloc (.cells cs T)).heap.size (w1.alloc (.cells cs T)) w3) : ∀ o, w3.frozen? ⟨k, o, none⟩ = false := by
  intro o
  have hl1 : k < w1.heap.size := Nat.lt_of_lt_of_le hlt hb.size
  rw [(mcell h3).2 _ _ (by simp <;> omega), frozen?_alloc_cells, hb.frozen k hlt hk o]; exact h o
end Go.Proofs.YtgbpldfcahajeaaDoor
