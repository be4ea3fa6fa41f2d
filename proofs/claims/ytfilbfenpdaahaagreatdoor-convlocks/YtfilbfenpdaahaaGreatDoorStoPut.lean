/-
  What is put, by contracts: fill, Put.
-/
import Derived.Test.YtfilbfenpdaahaaGreatDoorStoOps
import Derived.Test.YtfilbfenpdaahaaGreatDoorStoMk
namespace Go.Proofs.YtfilbfenpdaahaaGreatDoor
open Go.RowKit
open St
/-- eight cells of a row are written -/
def set8 (W : World) (B o : Nat) (x : Ob) : World := (((((((W.setCell ⟨B, o, none⟩ (.int .i64 x.kind)).setCell ⟨B, o + 1, none⟩ (.bool x.exec)).setCell ⟨B, o + 2, none⟩ (.int .i64 x.acc)).setCell ⟨B, o + 3, none⟩ (.int .i64 x.n)).setCell ⟨B, o + 4, none⟩ (.string x.name)).setCell ⟨B, o + 5, none⟩ (.int .i64 x.ref)).setCell ⟨B, o + 6, none⟩ (.int .i64 x.frm)).setCell ⟨B, o + 7, none⟩ (.int .i64 x.len)
theorem set8_far {W : World} {B o k : Nat} {x : Ob} (h : k ≠ B) : (set8 W B o x).heap[k]? = W.heap[k]? := by
  unfold set8
  rw [blk_far h, blk_far h, blk_far h, blk_far h, blk_far h, blk_far h, blk_far h, blk_far h]
theorem set8_size (W : World) (B o : Nat) (x : Ob) : (set8 W B o x).heap.size = W.heap.size := by unfold set8; simp only [setC_size]
theorem set8_env (W : World) (B o : Nat) (x : Ob) : (set8 W B o x).os = W.os ∧ (set8 W B o x).tape = W.tape ∧ (set8 W B o x).output = W.output := by unfold set8; simp only [setC_os, setC_tape, setC_output, and_self]
/-- a list with eight of its cells replaced -/
def lset8 (xs : List Value) (o : Nat) (x : Ob) : List Value := (((((((xs.set o (.int .i64 x.kind)).set (o + 1) (.bool x.exec)).set (o + 2) (.int .i64 x.acc)).set (o + 3) (.int .i64 x.n)).set (o + 4) (.string x.name)).set (o + 5) (.int .i64 x.ref)).set (o + 6) (.int .i64 x.frm)).set (o + 7) (.int .i64 x.len)
theorem own_stored {W : World} {base g n cap size : Nat} {e : TypeId} {xs : List Value} (h : W.ownsRow base e size (.slice (some ⟨g, 0, none⟩) n cap) n xs) (j : Nat) (u : Value) : (W.setCell ⟨g, j, none⟩ u).ownsRow base e size (.slice (some ⟨g, 0, none⟩) n cap) n (xs.set j u) := (h.stored j u).1
theorem set8_own {W : World} {base g n cap size : Nat} {e : TypeId} {xs : List Value} (h : W.ownsRow base e size (.slice (some ⟨g, 0, none⟩) n cap) n xs) (o : Nat) (x : Ob) : (set8 W g o x).ownsRow base e size (.slice (some ⟨g, 0, none⟩) n cap) n (lset8 xs o x) := by
  unfold set8 lset8
  exact own_stored (own_stored (own_stored (own_stored (own_stored (own_stored (own_stored (own_stored h _ _) _ _) _ _) _ _) _ _) _ _) _ _) _ _
theorem set_right (a b : List Value) (j : Nat) (v : Value) : (a ++ b).set (a.length + j) v = a ++ b.set j v := by
  rw [List.set_append_right _ _ (by omega)]; congr 2; omega
theorem lset8_right (a b : List Value) (j : Nat) (x : Ob) : lset8 (a ++ b) (a.length + j) x = a ++ lset8 b j x := by
  unfold lset8
  simp only [Nat.add_assoc, set_right]
theorem lset8_slot (c o : Ob) (r : List Value) (a : List Value) (h : a = slotC o) : lset8 (a ++ r) 0 c = slotC c ++ r := by
  subst h; rfl
theorem lset8_slots (x : Ob) : ∀ (its : List Ob) (p : Nat), p < its.length → lset8 (its.flatMap slotC) (p * 9) x = (its.set p x).flatMap slotC
  | [], p, h => by simp at h
  | o :: its, 0, _ => by
    rw [List.flatMap_cons, Nat.zero_mul, lset8_slot x o _ _ rfl]; rfl
  | o :: its, p + 1, h => by
    rw [List.flatMap_cons, show (p + 1) * 9 = (slotC o).length + p * 9 by simp [slotC]; omega, lset8_right, lset8_slots x its p (by simpa using h), List.set_cons_succ, List.flatMap_cons]
theorem slots_at (its : List Ob) : ∀ (p f : Nat) (o : Ob), its[p]? = some o → f < 9 → (its.flatMap slotC)[p * 9 + f]? = (slotC o)[f]? := by
  induction its with
  | nil => intro p f o h; simp at h
  | cons y its ih =>
    intro p f o h hf
    rw [List.flatMap_cons]
    cases p with
    | zero =>
      simp at h; subst h
      rw [List.getElem?_append_left (by simp [slotC]; omega)]; simp
    | succ p =>
      rw [List.getElem?_append_right (by simp [slotC]; omega)]
      have e : (p + 1) * 9 + f - (slotC y).length = p * 9 + f := by simp [slotC]; omega
      rw [e]; exact ih p f o (by simpa using h) hf
/-- nine cells of a slot, at o of block B: not frozen, and of no mark -/
structure Slot (w : World) (B o : Nat) : Prop where
  lt : B < w.heap.size
  c : ∀ j, j < 8 → ∃ v, w.cell? ⟨B, o + j, none⟩ = some v
  since : w.cell? ⟨B, o + 8, none⟩ = some (.int .i64 0)
  fz : ∀ j, w.frozen? ⟨B, j, none⟩ = false
theorem Slot.below {w w' : World} {B o : Nat} (h : Slot w B o) (hb : Below w.heap.size w w') : Slot w' B o :=
  ⟨Nat.lt_of_lt_of_le h.lt hb.size, fun j hj => by obtain ⟨v, hv⟩ := h.c j hj; exact ⟨v, (hb.cell (by exact h.lt)).trans hv⟩, (hb.cell (by exact h.lt)).trans h.since, fun j => (World.frozen?_of_block (w := w) (hb.block B h.lt)).trans (h.fz j)⟩
theorem slot_cells {w : World} {B o : Nat} (h : Slot w B o) : ∃ v0 v1 v2 v3 v4 v5 v6 v7, w.cell? ⟨B, o, none⟩ = some v0 ∧ w.cell? ⟨B, o + 1, none⟩ = some v1 ∧ w.cell? ⟨B, o + 2, none⟩ = some v2 ∧ w.cell? ⟨B, o + 3, none⟩ = some v3 ∧ w.cell? ⟨B, o + 4, none⟩ = some v4 ∧ w.cell? ⟨B, o + 5, none⟩ = some v5 ∧ w.cell? ⟨B, o + 6, none⟩ = some v6 ∧ w.cell? ⟨B, o + 7, none⟩ = some v7 := by
  obtain ⟨v0, h0⟩ := h.c 0 (by omega)
  obtain ⟨v1, h1⟩ := h.c 1 (by omega)
  obtain ⟨v2, h2⟩ := h.c 2 (by omega)
  obtain ⟨v3, h3⟩ := h.c 3 (by omega)
  obtain ⟨v4, h4⟩ := h.c 4 (by omega)
  obtain ⟨v5, h5⟩ := h.c 5 (by omega)
  obtain ⟨v6, h6⟩ := h.c 6 (by omega)
  obtain ⟨v7, h7⟩ := h.c 7 (by omega)
  exact ⟨v0, v1, v2, v3, v4, v5, v6, v7, h0, h1, h2, h3, h4, h5, h6, h7⟩
theorem mark_field (w : World) (a b c d : Value) : (Instr.field 126 (.agg #[a, b, c, d]) 0).run Tryz.prog w = .ok a w ∧ (Instr.field 126 (.agg #[a, b, c, d]) 1).run Tryz.prog w = .ok b w := by
  have h3 := Tryz.isAgg3
  have hz := Tryz.sizeOf3
  constructor <;> simp [Instr.field, run_underlying Tryz.underlying126, asAgg, part, go_sem]
end Go.Proofs.YtfilbfenpdaahaaGreatDoor
