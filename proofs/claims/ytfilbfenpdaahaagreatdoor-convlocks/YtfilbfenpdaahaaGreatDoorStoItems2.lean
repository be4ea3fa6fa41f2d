/-
  What an array's part has, by a contract: Items.
-/
import Derived.Test.YtfilbfenpdaahaaGreatDoorStoItems
namespace Go.Proofs.YtfilbfenpdaahaaGreatDoor
open Go.RowKit
open St
theorem box1 {w w2 : World} {a : Obj} (h : Below (w.alloc a).heap.size (w.alloc a) w2) : w2.heap[w.heap.size]? = some a := (h.block _ (by simp)).trans (heap_alloc_new w a)
theorem cpy_end {B n : Nat} {l : List Ob} {w2 wr : World} (h : Cpy B n n l w2 wr) (hl : l.length = n) : wr.ownsRow 0 27 8 (.slice (some ⟨B, 0, none⟩) n n) n (l.flatMap Ob.cells) := by
  obtain ⟨_, xs, hx, he, ho⟩ := h
  have : xs = l := List.ext_getElem? (fun j => by
    rcases Nat.lt_or_ge j n with hj | hj
    · exact he j hj
    · rw [List.getElem?_eq_none (by omega), List.getElem?_eq_none (by omega)])
  rw [this] at ho; exact ho
theorem Cpy.drew {B n k : Nat} {l : List Ob} {w2 wr : World} (h : Cpy B n k l w2 wr) : Cpy B n k l w2 wr.drew := h.draws 1
theorem cpy_round {B n k : Nat} {l : List Ob} {w2 wr : World} {x : Ob} (h : Cpy B n k l w2 wr) (hB : w2.heap.size ≤ B) (hk : k < n) (hx : l[k]? = some x) : Cpy B n (k + 1) l w2 ((((((((wr.setCell ⟨B, k * 8, none⟩ (.int .i64 x.kind)).setCell ⟨B, k * 8 + 1, none⟩ (.bool x.exec)).setCell ⟨B, k * 8 + 2, none⟩ (.int .i64 x.acc)).setCell ⟨B, k * 8 + 3, none⟩ (.int .i64 x.n)).setCell ⟨B, k * 8 + 4, none⟩ (.string x.name)).setCell ⟨B, k * 8 + 5, none⟩ (.int .i64 x.ref)).setCell ⟨B, k * 8 + 6, none⟩ (.int .i64 x.frm)).setCell ⟨B, k * 8 + 7, none⟩ (.int .i64 x.len)).drew := by
  have := (h.next hB hk hx).drew
  unfold set8 at this
  exact this
end Go.Proofs.YtfilbfenpdaahaaGreatDoor
