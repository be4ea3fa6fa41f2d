/-
  What an array's part has, by a contract: Items.
-/
import Derived.Test.YtfilbfenpdaahaaGreatDoorStoPut2
import Derived.Test.YtfilbfenpdaahaaGreatDoorStoPart
namespace Go.Proofs.YtfilbfenpdaahaaGreatDoor
open Go.RowKit
open St
theorem obj_info : (Tryz.prog.info? 27).map (fun i => (i.zero, i.size, i.bytes)) = some (some (.agg #[.int .i64 0, .bool false, .int .i64 0, .int .i64 0, .string ⟨#[]⟩, .int .i64 0, .int .i64 0, .int .i64 0]), 8, 72) := by kernel_rfl
def nobs (n : Nat) : Array Value := madeCells #[.int .i64 0, .bool false, .int .i64 0, .int .i64 0, .string ⟨#[]⟩, .int .i64 0, .int .i64 0, .int .i64 0] (n * 8)
theorem nobs_list (n : Nat) : (nobs n).toList = (List.replicate n nul).flatMap Ob.cells := by
  unfold nobs
  have e := made_list nul.cells 8 rfl (by decide) n
  simp only [Ob.cells, nul] at e
  rw [e]
  clear e
  induction n with
  | zero => rfl
  | succ n ih => rw [List.replicate_succ, List.flatten_cons, ih, List.replicate_succ, List.flatMap_cons]; rfl
theorem obs_len (l : List Ob) : (l.flatMap Ob.cells).length = l.length * 8 := by
  induction l with
  | nil => rfl
  | cons x l ih => rw [List.flatMap_cons, List.length_append, ih]; simp [Ob.cells]; omega
theorem make_obs (n : Nat) (hn : n ≤ 65535) (w : World) : (Instr.makeSlice 30 (.int .i64 n) (.int .i64 n)).run Tryz.prog w = .ok (.slice (some ⟨w.heap.size, 0, none⟩) n n) (w.alloc (.cells (nobs n) 27)) := by
  obtain ⟨i0, hi, hz0, hz1, hz2⟩ := info_parts obj_info
  have h := run_make (P := Tryz.prog) w 30 27 i0 _ Tryz.underlying30 hi hz0 .i64 .i64 n n (by omega) (Int.le_refl _) (by rw [hz2]; omega) (by omega)
  rw [hz1] at h
  simpa [nobs, Value.cells] using h
theorem lset8_ob (c o : Ob) (r a : List Value) (h : a = o.cells) : lset8 (a ++ r) 0 c = c.cells ++ r := by subst h; rfl
theorem lset8_obs (x : Ob) : ∀ (its : List Ob) (p : Nat), p < its.length → lset8 (its.flatMap Ob.cells) (p * 8) x = (its.set p x).flatMap Ob.cells
  | [], p, h => by simp at h
  | o :: its, 0, _ => by rw [List.flatMap_cons, Nat.zero_mul, lset8_ob x o _ _ rfl]; rfl
  | o :: its, p + 1, h => by
    rw [List.flatMap_cons, show (p + 1) * 8 = o.cells.length + p * 8 by simp [Ob.cells]; omega, lset8_right, lset8_obs x its p (by simpa using h), List.set_cons_succ, List.flatMap_cons]
theorem obs_at (its : List Ob) : ∀ (p f : Nat) (o : Ob), its[p]? = some o → f < 8 → (its.flatMap Ob.cells)[p * 8 + f]? = o.cells[f]? := by
  induction its with
  | nil => intro p f o h; simp at h
  | cons y its ih =>
    intro p f o h hf
    rw [List.flatMap_cons]
    cases p with
    | zero =>
      simp at h; subst h
      rw [List.getElem?_append_left (by simp [Ob.cells]; omega)]; simp
    | succ p =>
      rw [List.getElem?_append_right (by simp [Ob.cells]; omega)]
      have e : (p + 1) * 8 + f - y.cells.length = p * 8 + f := by simp [Ob.cells]; omega
      rw [e]; exact ih p f o (by simpa using h) hf
/-- a list is being copied: k of it are there -/
def Cpy (B n k : Nat) (l : List Ob) (w2 wr : World) : Prop := Below w2.heap.size w2 wr ∧ ∃ xs : List Ob, xs.length = n ∧ (∀ j, j < k → xs[j]? = l[j]?) ∧ wr.ownsRow 0 27 8 (.slice (some ⟨B, 0, none⟩) n n) n (xs.flatMap Ob.cells)
theorem Cpy.start {w2 : World} {n : Nat} {l : List Ob} (hn : n ≤ 65535) : Cpy w2.heap.size n 0 l w2 (w2.alloc (.cells (nobs n) 27)) := by
  refine ⟨below1 w2 _, List.replicate n nul, by simp, fun j hj => by omega, ?_⟩
  have hs : (nobs n).size = n * 8 := by rw [← Array.length_toList, nobs_list, obs_len]; simp
  have := own_of_block (size := 8) (heap_alloc_new w2 (.cells (nobs n) 27)) hn hs
  rw [nobs_list] at this; exact this
theorem Cpy.draws {B n k : Nat} {l : List Ob} {w2 wr : World} (h : Cpy B n k l w2 wr) (q : Nat) : Cpy B n k l w2 (wr.drewN q) := ⟨below_draw h.1 q, h.2⟩
theorem Cpy.next {B n k : Nat} {l : List Ob} {w2 wr : World} {x : Ob} (h : Cpy B n k l w2 wr) (hB : w2.heap.size ≤ B) (hk : k < n) (hx : l[k]? = some x) : Cpy B n (k + 1) l w2 (set8 wr B (k * 8) x) := by
  obtain ⟨hb, xs, hl, he, ho⟩ := h
  obtain ⟨e1, e2, e3⟩ := set8_env wr B (k * 8) x
  refine ⟨⟨e1.trans hb.os, e2.trans hb.tape, e3.trans hb.output, by rw [set8_size]; exact hb.size, fun j hj => (set8_far (by omega)).trans (hb.block j hj)⟩, xs.set k x, by simpa using hl, fun j hj => ?_, ?_⟩
  · rw [List.getElem?_set]
    split
    · rename_i e; subst e; rw [if_pos (by omega), hx]
    · exact he j (by omega)
  · have := set8_own ho (k * 8) x
    rw [lset8_obs x xs k (by omega)] at this; exact this
theorem Cpy.cells {B n k : Nat} {l : List Ob} {w2 wr : World} (h : Cpy B n k l w2 wr) (j : Nat) (hj : j < n) : (∃ v0 v1 v2 v3 v4 v5 v6 v7, wr.cell? ⟨B, j * 8, none⟩ = some v0 ∧ wr.cell? ⟨B, j * 8 + 1, none⟩ = some v1 ∧ wr.cell? ⟨B, j * 8 + 2, none⟩ = some v2 ∧ wr.cell? ⟨B, j * 8 + 3, none⟩ = some v3 ∧ wr.cell? ⟨B, j * 8 + 4, none⟩ = some v4 ∧ wr.cell? ⟨B, j * 8 + 5, none⟩ = some v5 ∧ wr.cell? ⟨B, j * 8 + 6, none⟩ = some v6 ∧ wr.cell? ⟨B, j * 8 + 7, none⟩ = some v7) ∧ ∀ o, wr.frozen? ⟨B, o, none⟩ = false := by
  obtain ⟨_, xs, hl, _, ho⟩ := h
  have hx : xs[j]? = some xs[j] := List.getElem?_eq_getElem (by omega)
  have hc : ∀ f, f < 8 → wr.cell? ⟨B, j * 8 + f, none⟩ = (xs[j]).cells[f]? := fun f hf => by rw [ho.cellAt (j * 8 + f) (by omega), obs_at xs j f _ hx hf]
  exact ⟨⟨_, _, _, _, _, _, _, _, hc 0 (by omega), hc 1 (by omega), hc 2 (by omega), hc 3 (by omega), hc 4 (by omega), hc 5 (by omega), hc 6 (by omega), hc 7 (by omega)⟩, fun o => ho.frozenAt o⟩
/-- the objects of o's part -/
def itemsR (G : List (Th × Lay)) (o : Ob) : List Ob := match tld G o 7 with
  | some t => match G[t]? with
    | some y => (y.1.items.drop o.frm.toNat).take o.len.toNat
    | none => []
  | none => []
def ItemsP (G : List (Th × Lay)) (o : Ob) (w : World) (e : Ending) (w' : World) : Prop :=
  Below w.heap.size w w' ∧ ((tld G o 7 = none ∧ e = .returned (.tuple #[.slice none 0 0, .int .i64 21])) ∨
    ∃ B, w.heap.size ≤ B ∧ tld G o 7 ≠ none ∧ e = .returned (.tuple #[.slice (some ⟨B, 0, none⟩) (itemsR G o).length (itemsR G o).length, .int .i64 0]) ∧ w'.ownsRow 0 27 8 (.slice (some ⟨B, 0, none⟩) (itemsR G o).length (itemsR G o).length) (itemsR G o).length ((itemsR G o).flatMap Ob.cells))
theorem slot_read {O : Nat → Prop} {w : World} {t : Th} {l : Lay} {B c p : Nat} {x : Ob} (h : ThR O w t l) (e : l.i = .slice (some ⟨B, 0, none⟩) t.items.length c) (hp : t.items[p]? = some x) : w.cell? ⟨B, p * 9, none⟩ = some (.int .i64 x.kind) ∧ w.cell? ⟨B, p * 9 + 1, none⟩ = some (.bool x.exec) ∧ w.cell? ⟨B, p * 9 + 2, none⟩ = some (.int .i64 x.acc) ∧ w.cell? ⟨B, p * 9 + 3, none⟩ = some (.int .i64 x.n) ∧ w.cell? ⟨B, p * 9 + 4, none⟩ = some (.string x.name) ∧ w.cell? ⟨B, p * 9 + 5, none⟩ = some (.int .i64 x.ref) ∧ w.cell? ⟨B, p * 9 + 6, none⟩ = some (.int .i64 x.frm) ∧ w.cell? ⟨B, p * 9 + 7, none⟩ = some (.int .i64 x.len) := by
  have hr := h.ri
  rw [e] at hr
  have hl : p < t.items.length := (List.getElem?_eq_some_iff.1 hp).1
  have hc : ∀ f, f < 9 → w.cell? ⟨B, p * 9 + f, none⟩ = (slotC x)[f]? := fun f hf => by rw [hr.cellAt (p * 9 + f) (by omega), slots_at _ p f _ hp hf]
  exact ⟨hc 0 (by omega), hc 1 (by omega), hc 2 (by omega), hc 3 (by omega), hc 4 (by omega), hc 5 (by omega), hc 6 (by omega), hc 7 (by omega)⟩
end Go.Proofs.YtfilbfenpdaahaaGreatDoor
