/-
  What stands between two steps of the law SaveNested, and its numbers.
-/
import Derived.Test.YtlflkdmbbomjeaaSavRest
namespace Go.Proofs.Ytlflkdmbbomjeaa
open Go.RowKit
open St
/-- the first marks, and saves -/
def mks (p : Nat) : List Mrk := (List.range p).map fun j => ⟨j + 1, 0, 100, 0⟩
def nums (p : Nat) : List Nat := (List.range p).map fun j => j + 1
theorem mks_len (p : Nat) : (mks p).length = p := by simp [mks]
theorem nums_len (p : Nat) : (nums p).length = p := by simp [nums]
theorem mks_succ (p : Nat) : mks p ++ [⟨p + 1, 0, 100, 0⟩] = mks (p + 1) := by simp [mks, List.range_succ]
theorem nums_succ (p : Nat) : nums p ++ [p + 1] = nums (p + 1) := by simp [nums, List.range_succ]
theorem mks_take (p m : Nat) (h : m ≤ p) : (mks p).take m = mks m := by
  apply List.ext_getElem
  · simp [mks]; omega
  · intro i h1 h2; simp [mks]
theorem nums_take (p m : Nat) (h : m ≤ p) : (nums p).take m = nums m := by
  apply List.ext_getElem
  · simp [nums]; omega
  · intro i h1 h2; simp [nums]
theorem mks_at (p i : Nat) (h : i < p) : (mks p)[i]? = some ⟨i + 1, 0, 100, 0⟩ := by simp [mks, h]
theorem nums_at (p i : Nat) (h : i < p) : (nums p)[i]? = some (i + 1) := by simp [nums, h]
theorem nums_get (p i : Nat) (h : i < (nums p).length) : (nums p)[i] = i + 1 := by simp [nums]
theorem fnd_in (p i : Nat) (h : i < p) : fndI (nums p) (sob ((i + 1 : Nat) : Int)) = i := by
  unfold fndI sob
  rw [if_pos rfl]
  refine fdI_some (i := i) (by rw [nums_len]; exact h) (by rw [nums_get]) (fun j hj => ?_)
  rw [nums_get]
  show ((j + 1 : Nat) : Int) ≠ ((i + 1 : Nat) : Int)
  omega
theorem fnd_out (p i : Nat) (h : p ≤ i) : fndI (nums p) (sob ((i + 1 : Nat) : Int)) = -1 := by
  unfold fndI sob
  rw [if_pos rfl]
  refine fdI_none (fun j hj => ?_)
  rw [nums_get]
  rw [nums_len] at hj
  show ((j + 1 : Nat) : Int) ≠ ((i + 1 : Nat) : Int)
  omega
theorem all_in (p j : Nat) (h : j < p) : ∀ n ∈ (nums p).take j, ∃ x ∈ (mks p).take (j + 1), x.num = n := by
  rw [nums_take p j (by omega), mks_take p (j + 1) (by omega)]
  intro n hn
  obtain ⟨a, ha, rfl⟩ : ∃ a, a < j ∧ a + 1 = n := by simpa [nums] using hn
  exact ⟨⟨a + 1, 0, 100, 0⟩, by simp [mks]; omega, rfl⟩
def obR (p : Nat) : List Value := (nums p).flatMap fun n : Nat => (sob (n : Int)).cells
theorem obR_succ (p : Nat) : obR p ++ (sob ((p : Int) + 1)).cells = obR (p + 1) := by
  unfold obR
  rw [← nums_succ, List.flatMap_append]
  simp
structure NS (w wr : World) (M : List Mrk) (A : List Nat) (K P : Nat) (lo : Value) : Prop where
  ss : SS w.heap.size wr w.heap.size (w.heap.size + 1) 100 M A K
  row : wr.ownsRow 0 40 8 lo P (obR P)
  bel : Below w.heap.size w wr
theorem NS.step {w wr w' : World} {M : List Mrk} {A : List Nat} {K P : Nat} {lo : Value} (h : NS w wr M A K P lo) (hb : Below wr.heap.size wr w') : NS w w' M A K P lo :=
  ⟨h.ss.below hb, owns_same h.row (fun k hk => hb.block k (owns_lt h.row hk)), bthen h.bel hb⟩
theorem NS.turn {w wr w' : World} {M M' : List Mrk} {A A' : List Nat} {K K' P : Nat} {lo : Value} (h : NS w wr M A K P lo) (hs : SS w.heap.size w' w.heap.size (w.heap.size + 1) 100 M' A' K') (hb : Below w.heap.size wr w') (ho : OtherT wr w') : NS w w' M' A' K' P lo := by
  refine ⟨hs, owns_same h.row (fun k hk => ho k (owns_lt h.row hk) (fun c t f hc => ?_)), h.bel.trans hb⟩
  rcases h.row.2 with ⟨e0, _⟩ | ⟨g0, cap0, cur0, e0, _, hg0, _⟩
  · rw [e0] at hk; cases hk
  · have e1 : g0 = k := by rw [e0] at hk; simpa [isB, Value.ownBlock] using hk
    subst e1
    rw [hg0] at hc
    cases hc
    decide
theorem NS.cells {w wr : World} {M : List Mrk} {A : List Nat} {K P i g c : Nat} (h : NS w wr M A K P (.slice (some ⟨g, 0, none⟩) P c)) (hi : i < P) :
    wr.cell? ⟨g, i * 8, none⟩ = some (.int .i64 10) ∧ wr.cell? ⟨g, i * 8 + 1, none⟩ = some (.bool false) ∧ wr.cell? ⟨g, i * 8 + 2, none⟩ = some (.int .i64 0) ∧ wr.cell? ⟨g, i * 8 + 3, none⟩ = some (.int .i64 ((i : Int) + 1)) ∧ wr.cell? ⟨g, i * 8 + 4, none⟩ = some (.string ⟨#[]⟩) ∧ wr.cell? ⟨g, i * 8 + 5, none⟩ = some (.int .i64 0) ∧ wr.cell? ⟨g, i * 8 + 6, none⟩ = some (.int .i64 0) ∧ wr.cell? ⟨g, i * 8 + 7, none⟩ = some (.int .i64 0) := by
  have hc : ∀ f, f < 8 → wr.cell? ⟨g, i * 8 + f, none⟩ = (sob ((i + 1 : Nat) : Int)).cells[f]? := fun f hf => by
    rw [h.row.cellAt (i * 8 + f) (by omega)]
    exact flat_at (fun n : Nat => (sob (n : Int)).cells) 8 (fun _ => rfl) (nums P) i f (i + 1) (nums_at P i hi) hf
  have h3 := hc 3 (by omega)
  rw [show ((i + 1 : Nat) : Int) = (i : Int) + 1 by omega] at h3
  exact ⟨hc 0 (by omega), hc 1 (by omega), hc 2 (by omega), h3, hc 4 (by omega), hc 5 (by omega), hc 6 (by omega), hc 7 (by omega)⟩
theorem obj_info : (Try.prog.info? 40).map (fun i => (i.zero, i.size, i.bytes)) = some (some (.agg #[.int .i64 0, .bool false, .int .i64 0, .int .i64 0, .string ⟨#[]⟩, .int .i64 0, .int .i64 0, .int .i64 0]), 8, 72) := by kernel_rfl
/-- what an append of an object leaves -/
theorem NS.app {w wr w5 : World} {M : List Mrk} {A : List Nat} {K P gg cap : Nat} {lo : Value} {o : Obj} (h : NS w wr M A K P lo) (hlo : ∀ k, isB lo k → w.heap.size ≤ k) (hown : w5.ownsRow 0 40 8 (.slice (some ⟨gg, 0, none⟩) (P + 1) cap) (P + 1) (obR P ++ (sob ((P : Int) + 1)).cells)) (hg : (wr.alloc o).grownBy w5 lo.ownBlock) :
    NS w w5 M A K (P + 1) (.slice (some ⟨gg, 0, none⟩) (P + 1) cap) := by
  have hkeep : ∀ k, k < wr.heap.size → some k ≠ lo.ownBlock → w5.heap[k]? = wr.heap[k]? := fun k hk hne => by
    rw [hg.block k (by simp; omega) hne, heap_alloc_old _ _ hk]
  obtain ⟨mv, lv, hM, hS, h1, h2⟩ := h.ss.at_
  have hz := h.bel.size
  refine ⟨⟨⟨mv, lv, hM.same (hkeep _ hM.lt (own_ne hM.blk h.row (by decide))) (fun k hk => hkeep k (owns_lt hM.row hk) (fun e => ?_)), hS.same (hkeep _ hS.lt (own_ne hS.blk h.row (by decide))) (fun k hk => hkeep k (owns_lt hS.row hk) (fun e => ?_)), h1, h2⟩, h.ss.ls, h.ss.lv, h.ss.plain, h.ss.all⟩, by rw [← obR_succ]; exact hown, ?_⟩
  · rcases hM.row.2 with ⟨e0, _⟩ | ⟨g0, cap0, cur0, e0, _, hg0, _⟩
    · rw [e0] at hk; cases hk
    · have e1 : g0 = k := by rw [e0] at hk; simpa [isB, Value.ownBlock] using hk
      subst e1
      exact own_ne hg0 h.row (by decide) e
  · rcases hS.row.2 with ⟨e0, _⟩ | ⟨g0, cap0, cur0, e0, _, hg0, _⟩
    · rw [e0] at hk; cases hk
    · have e1 : g0 = k := by rw [e0] at hk; simpa [isB, Value.ownBlock] using hk
      subst e1
      exact own_ne hg0 h.row (by decide) e
  · refine ⟨hg.os.trans h.bel.os, hg.tape.trans h.bel.tape, hg.output.trans h.bel.output, by have := hg.size; simp at this; omega, fun k hk => ?_⟩
    rw [hkeep k (by omega) (fun e => by have := hlo k e.symm; omega), h.bel.block k hk]
end Go.Proofs.Ytlflkdmbbomjeaa
