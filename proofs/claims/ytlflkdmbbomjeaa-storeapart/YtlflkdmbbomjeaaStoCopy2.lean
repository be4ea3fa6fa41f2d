/-
  One round of a store's copy.
-/
import Derived.Test.YtlflkdmbbomjeaaStoCopy
namespace Go.Proofs.Ytlflkdmbbomjeaa
open Go.RowKit
open St
/-- of the old blocks only B may have turned -/
structure OnlyB (B : Nat) (w w' : World) : Prop where
  os : w'.os = w.os
  tape : w'.tape = w.tape
  output : w'.output = w.output
  size : w.heap.size ≤ w'.heap.size
  far : ∀ k, k < w.heap.size → k ≠ B → w'.heap[k]? = w.heap[k]?
theorem OnlyB.step {B : Nat} {u v w : World} (h : OnlyB B u v) (hb : Below v.heap.size v w) : OnlyB B u w :=
  ⟨hb.os.trans h.os, hb.tape.trans h.tape, hb.output.trans h.output, Nat.le_trans h.size hb.size, fun k hk hn => (hb.block k (Nat.lt_of_lt_of_le hk h.size)).trans (h.far k hk hn)⟩
theorem OnlyB.set {B j : Nat} {u v : World} (h : OnlyB B u v) (x : Value) : OnlyB B u (v.setCell ⟨B, j, none⟩ x) :=
  ⟨h.os, h.tape, h.output, by rw [setC_size]; exact h.size, fun k hk hn => (blk_far hn x).trans (h.far k hk hn)⟩
theorem OnlyB.refl (B : Nat) (w : World) : OnlyB B w w := ⟨rfl, rfl, rfl, Nat.le_refl _, fun _ _ _ => rfl⟩
theorem only_own {B n size : Nat} {e : TypeId} {w w' : World} {v : Value} {xs : List Value} (h : OnlyB B w w') (hr : w.ownsRow 0 e size v n xs) (hne : ∀ k, isB v k → k ≠ B) : w'.ownsRow 0 e size v n xs := owns_same hr (fun k hk => h.far k (owns_lt hr hk) (hne k hk))
theorem Cps.step {w wr wa wb wc : World} {H B k : Nat} {fr : Int} {am ac : Option Addr} {cm cc : Nat} {G D : List (Th × Lay)} {y : Th × Lay} (h : Cps w wr H B fr am ac cm cc G k D) (hy : D[k]? = some y) {ni np : Nat}
    (hba : Below wr.heap.size wr wa) (hra : wa.ownsRow 0 5 1 (.slice (some ⟨wr.heap.size, 0, none⟩) y.1.bytes.length y.1.bytes.length) y.1.bytes.length (y.1.bytes.map bv))
    (hni : ni = wa.heap.size) (hbb : Below ni (wa.setCell ⟨B, k * 7 + 2, none⟩ (.slice (some ⟨wr.heap.size, 0, none⟩) y.1.bytes.length y.1.bytes.length)) wb) (hrb : wb.ownsRow 0 127 9 (.slice (some ⟨ni, 0, none⟩) y.1.items.length y.1.items.length) y.1.items.length (y.1.items.flatMap slotC))
    (hnp : np = wb.heap.size) (hbc : Below np (wb.setCell ⟨B, k * 7 + 3, none⟩ (.slice (some ⟨ni, 0, none⟩) y.1.items.length y.1.items.length)) wc) (hrc : wc.ownsRow 0 129 17 (.slice (some ⟨np, 0, none⟩) y.1.pairs.length y.1.pairs.length) y.1.pairs.length (y.1.pairs.flatMap pairC))
    (hsm : y.1.bytes.length ≤ 65535 ∧ y.1.items.length ≤ 65535 ∧ y.1.pairs.length ≤ 4096 ∧ (y.1.pairs.length : Int) ≤ y.1.most ∧ y.1.most ≤ 4096) :
    Cps w (wc.setCell ⟨B, k * 7 + 4, none⟩ (.slice (some ⟨np, 0, none⟩) y.1.pairs.length y.1.pairs.length)) H B fr am ac cm cc G (k + 1) (D.modify k (layF ⟨.slice (some ⟨wr.heap.size, 0, none⟩) y.1.bytes.length y.1.bytes.length, .slice (some ⟨ni, 0, none⟩) y.1.items.length y.1.items.length, .slice (some ⟨np, 0, none⟩) y.1.pairs.length y.1.pairs.length⟩)) := by
  have hBl : B < wr.heap.size := owns_lt h.row rfl
  have hHl : H < wr.heap.size := (Array.getElem?_eq_some_iff.1 h.blk).1
  have hHB : H ≠ B := by have := h.hH; have := h.hB; omega
  have sa := hba.size
  have oa : OnlyB B wr (wa.setCell ⟨B, k * 7 + 2, none⟩ (.slice (some ⟨wr.heap.size, 0, none⟩) y.1.bytes.length y.1.bytes.length)) := ((OnlyB.refl B wr).step hba).set _
  have sb : ni ≤ wb.heap.size := by have := hbb.size; rw [setC_size] at this; omega
  have hbb' : Below (wa.setCell ⟨B, k * 7 + 2, none⟩ (.slice (some ⟨wr.heap.size, 0, none⟩) y.1.bytes.length y.1.bytes.length)).heap.size (wa.setCell ⟨B, k * 7 + 2, none⟩ (.slice (some ⟨wr.heap.size, 0, none⟩) y.1.bytes.length y.1.bytes.length)) wb := by rw [setC_size, ← hni]; exact hbb
  have ob := (oa.step hbb').set (j := k * 7 + 3) (.slice (some ⟨ni, 0, none⟩) y.1.items.length y.1.items.length)
  have hbc' : Below (wb.setCell ⟨B, k * 7 + 3, none⟩ (.slice (some ⟨ni, 0, none⟩) y.1.items.length y.1.items.length)).heap.size (wb.setCell ⟨B, k * 7 + 3, none⟩ (.slice (some ⟨ni, 0, none⟩) y.1.items.length y.1.items.length)) wc := by rw [setC_size, ← hnp]; exact hbc
  have oc := (ob.step hbc').set (j := k * 7 + 4) (.slice (some ⟨np, 0, none⟩) y.1.pairs.length y.1.pairs.length)
  have sc : np ≤ wc.heap.size := by have := hbc.size; rw [setC_size] at this; omega
  have nbl : wr.heap.size < wa.heap.size := owns_lt hra rfl
  have nil' : ni < wb.heap.size := owns_lt hrb rfl
  have npl : np < wc.heap.size := owns_lt hrc rfl
  -- the row of things
  have r1 := own_stored (owns_same h.row (w' := wa) (fun q hq => hba.block q (owns_lt h.row hq))) (k * 7 + 2) (.slice (some ⟨wr.heap.size, 0, none⟩) y.1.bytes.length y.1.bytes.length)
  have r2 := own_stored (owns_same r1 (w' := wb) (fun q hq => hbb'.block q (owns_lt r1 hq))) (k * 7 + 3) (.slice (some ⟨ni, 0, none⟩) y.1.items.length y.1.items.length)
  have r3 := own_stored (owns_same r2 (w' := wc) (fun q hq => hbc'.block q (owns_lt r2 hq))) (k * 7 + 4) (.slice (some ⟨np, 0, none⟩) y.1.pairs.length y.1.pairs.length)
  rw [← thsC_lay ⟨.slice (some ⟨wr.heap.size, 0, none⟩) y.1.bytes.length y.1.bytes.length, .slice (some ⟨ni, 0, none⟩) y.1.items.length y.1.items.length, .slice (some ⟨np, 0, none⟩) y.1.pairs.length y.1.pairs.length⟩ D 0 k y hy] at r3
  -- the new rows, at the end
  have fb : (wc.setCell ⟨B, k * 7 + 4, none⟩ (.slice (some ⟨np, 0, none⟩) y.1.pairs.length y.1.pairs.length)).ownsRow 0 5 1 (.slice (some ⟨wr.heap.size, 0, none⟩) y.1.bytes.length y.1.bytes.length) y.1.bytes.length (y.1.bytes.map bv) := owns_same hra (fun q hq => by
    have : wr.heap.size = q := by simpa [isB, Value.ownBlock] using hq
    rw [blk_far (by omega), hbc'.block q (by rw [setC_size]; omega), blk_far (by omega), hbb'.block q (by rw [setC_size]; omega), blk_far (by omega)])
  have fi : (wc.setCell ⟨B, k * 7 + 4, none⟩ (.slice (some ⟨np, 0, none⟩) y.1.pairs.length y.1.pairs.length)).ownsRow 0 127 9 (.slice (some ⟨ni, 0, none⟩) y.1.items.length y.1.items.length) y.1.items.length (y.1.items.flatMap slotC) := owns_same hrb (fun q hq => by
    have : ni = q := by simpa [isB, Value.ownBlock] using hq
    rw [blk_far (by omega), hbc'.block q (by rw [setC_size]; omega), blk_far (by omega)])
  have fp : (wc.setCell ⟨B, k * 7 + 4, none⟩ (.slice (some ⟨np, 0, none⟩) y.1.pairs.length y.1.pairs.length)).ownsRow 0 129 17 (.slice (some ⟨np, 0, none⟩) y.1.pairs.length y.1.pairs.length) y.1.pairs.length (y.1.pairs.flatMap pairC) := owns_same hrc (fun q hq => by
    have : np = q := by simpa [isB, Value.ownBlock] using hq
    rw [blk_far (by omega)])
  have hw := h.below.size
  have hBw := h.hB
  refine ⟨⟨oc.os.trans h.below.os, oc.tape.trans h.below.tape, oc.output.trans h.below.output, Nat.le_trans hw oc.size, fun q hq => (oc.far q (by omega) (by omega)).trans (h.below.block q hq)⟩, h.hH, h.hB, (oc.far H hHl hHB).trans h.blk, r3, by rw [List.length_modify]; exact h.len, fun j z hz => ?_, fun j z hj hz => ?_, fun i j x z hij hi hj hx hz => ?_⟩
  · rcases modify_at hz with ⟨rfl, y', hy', rfl⟩ | ⟨hj, hz0⟩
    · obtain ⟨g, hg, e1, _⟩ := h.th j y' hy'
      exact ⟨g, hg, e1, fun hh => by omega⟩
    · obtain ⟨g, hg, e1, e2⟩ := h.th j z hz0
      exact ⟨g, hg, e1, fun hh => e2 (by omega)⟩
  · rcases modify_at hz with ⟨rfl, y', hy', rfl⟩ | ⟨hjk, hz0⟩
    · rw [hy] at hy'; cases hy'
      refine ⟨fb, fi, fp, fun q hq => ?_, fun q hq => ?_, fun q hq => ?_, hsm.1, hsm.2.1, hsm.2.2.1, hsm.2.2.2⟩
      · have : wr.heap.size = q := by simpa [layF, isB, Value.ownBlock] using hq
        rw [setC_size]; omega
      · have : ni = q := by simpa [layF, isB, Value.ownBlock] using hq
        rw [setC_size]; omega
      · have : np = q := by simpa [layF, isB, Value.ownBlock] using hq
        rw [setC_size]; omega
    · have hr := h.own j z (by omega) hz0
      have hgt : ∀ q, (isB z.2.b q ∨ isB z.2.i q ∨ isB z.2.p q) → w.heap.size + 1 < q := fun q hq => by rcases hq with e | e | e; exact (hr.ob q e).1; exact (hr.oi q e).1; exact (hr.op q e).1
      refine (hr.same (fun q hq => oc.far q (hr.lt hq) (by have := hgt q hq; omega))).mono (fun q hq e => ⟨e.1, hq⟩)
  · have old : ∀ (j : Nat) (z : Th × Lay), j < k + 1 → (D.modify k (layF ⟨.slice (some ⟨wr.heap.size, 0, none⟩) y.1.bytes.length y.1.bytes.length, .slice (some ⟨ni, 0, none⟩) y.1.items.length y.1.items.length, .slice (some ⟨np, 0, none⟩) y.1.pairs.length y.1.pairs.length⟩))[j]? = some z → (j < k ∧ D[j]? = some z ∧ ∀ q, (isB z.2.b q ∨ isB z.2.i q ∨ isB z.2.p q) → q < wr.heap.size) ∨ (j = k ∧ ∀ q, (isB z.2.b q ∨ isB z.2.i q ∨ isB z.2.p q) → wr.heap.size ≤ q) := fun j z hj hz => by
      rcases modify_at hz with ⟨rfl, y', hy', rfl⟩ | ⟨hjk, hz0⟩
      · refine .inr ⟨rfl, fun q hq => ?_⟩
        rcases hq with e | e | e
        · have : wr.heap.size = q := by simpa [layF, isB, Value.ownBlock] using e
          omega
        · have : ni = q := by simpa [layF, isB, Value.ownBlock] using e
          omega
        · have : np = q := by simpa [layF, isB, Value.ownBlock] using e
          omega
      · have hjk2 : j < k := by omega
        exact .inl ⟨hjk2, hz0, fun q hq => (h.own j z hjk2 hz0).lt hq⟩
    rcases old i x hi hx with ⟨i1, i2, i3⟩ | ⟨i1, i3⟩
    · rcases old j z hj hz with ⟨j1, j2, j3⟩ | ⟨j1, j3⟩
      · exact h.apart i j x z hij i1 j1 i2 j2
      · exact fun q => ⟨fun a b => by have := i3 q (.inl a); have := j3 q (.inl b); omega, fun a b => by have := i3 q (.inr (.inl a)); have := j3 q (.inr (.inl b)); omega, fun a b => by have := i3 q (.inr (.inr a)); have := j3 q (.inr (.inr b)); omega⟩
    · rcases old j z hj hz with ⟨j1, j2, j3⟩ | ⟨j1, j3⟩
      · exact fun q => ⟨fun a b => by have := i3 q (.inl a); have := j3 q (.inl b); omega, fun a b => by have := i3 q (.inr (.inl a)); have := j3 q (.inr (.inl b)); omega, fun a b => by have := i3 q (.inr (.inr a)); have := j3 q (.inr (.inr b)); omega⟩
      · omega
end Go.Proofs.Ytlflkdmbbomjeaa
