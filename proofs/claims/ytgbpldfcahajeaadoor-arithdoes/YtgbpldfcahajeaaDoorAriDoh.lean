/-
  ArithDoes where the operands are just so many (made by gendoes.py).
-/
import Derived.Test.YtgbpldfcahajeaaDoorAriDoe
namespace Go.Proofs.YtgbpldfcahajeaaDoor
open Go.RowKit
open Fx
namespace Ari
theorem addr_two (ad : Addr) (i f : Nat) (hf : 0 < f) : ad.add (i + f) = ⟨(ad.add i).block, (ad.add i).off + f, none⟩ := by
  unfold Addr.add
  by_cases h1 : i = 0 <;> by_cases h2 : i + f = 0 <;> simp_all <;> omega
/-- an object's cells from an address on -/
structure ObA (w : World) (ad : Addr) (o : Ob) : Prop where
  c0 : w.cell? ad = some (.int .i64 o.kind)
  c1 : w.cell? ⟨ad.block, ad.off + 1, none⟩ = some (.bool o.exec)
  c2 : w.cell? ⟨ad.block, ad.off + 2, none⟩ = some (.int .i64 o.acc)
  c3 : w.cell? ⟨ad.block, ad.off + 3, none⟩ = some (.int .i64 o.n)
  c4 : w.cell? ⟨ad.block, ad.off + 4, none⟩ = some (.string o.name)
  c5 : w.cell? ⟨ad.block, ad.off + 5, none⟩ = some (.int .i64 o.ref)
  c6 : w.cell? ⟨ad.block, ad.off + 6, none⟩ = some (.int .i64 o.frm)
  c7 : w.cell? ⟨ad.block, ad.off + 7, none⟩ = some (.int .i64 o.len)
theorem src_one {w : World} {ad : Addr} {o : Ob} {l : List Ob} (h : SrcO w (some ad) (o :: l)) : ObA w ad o := by
  have hx : ∀ f (hf : f < 8), w.cell? (ad.add f) = o.cells[f]? := fun f hf => by
    have h8 : f < o.cells.length := by simp [Ob.cells]; omega
    rw [List.getElem?_eq_getElem h8]
    refine h.some _ _ ?_
    rw [List.flatMap_cons, List.getElem?_append_left h8, List.getElem?_eq_getElem h8]
  have h0 : ad.add 0 = ad := by unfold Addr.add; simp
  have hy : ∀ f, 0 < f → f < 8 → w.cell? ⟨ad.block, ad.off + f, none⟩ = o.cells[f]? := fun f h1 hf => by
    have e := addr_two ad 0 f h1
    rw [Nat.zero_add, h0] at e
    rw [← e]; exact hx f hf
  have e0 := hx 0 (by omega)
  rw [h0] at e0
  exact ⟨e0, hy 1 (by omega) (by omega), hy 2 (by omega) (by omega), hy 3 (by omega) (by omega), hy 4 (by omega) (by omega), hy 5 (by omega) (by omega), hy 6 (by omega) (by omega), hy 7 (by omega) (by omega)⟩
theorem src_two {w : World} {ad : Addr} {o p : Ob} {l : List Ob} (h : SrcO w (some ad) (o :: p :: l)) : ObA w (ad.add 8) p := by
  have hx : ∀ f (hf : f < 8), w.cell? (ad.add (8 + f)) = p.cells[f]? := fun f hf => by
    have h8 : f < p.cells.length := by simp [Ob.cells]; omega
    rw [List.getElem?_eq_getElem h8]
    refine h.some _ _ ?_
    have ho : o.cells.length = 8 := rfl
    rw [List.flatMap_cons, List.getElem?_append_right (by omega), List.flatMap_cons, List.getElem?_append_left (by omega), ← List.getElem?_eq_getElem h8]
    congr 1; omega
  have hy : ∀ f, 0 < f → f < 8 → w.cell? ⟨(ad.add 8).block, (ad.add 8).off + f, none⟩ = p.cells[f]? := fun f h1 hf => by
    rw [← addr_two ad 8 f h1]; exact hx f hf
  exact ⟨hx 0 (by omega), hy 1 (by omega) (by omega), hy 2 (by omega) (by omega), hy 3 (by omega) (by omega), hy 4 (by omega) (by omega), hy 5 (by omega) (by omega), hy 6 (by omega) (by omega), hy 7 (by omega) (by omega)⟩
theorem srcV_new (w : World) (o : Ob) : SrcV (w.alloc (.cells #[.int .i64 o.kind, .bool o.exec, .int .i64 o.acc, .int .i64 o.n, .string o.name, .pointer none, .pointer none, .pointer none, .int .i64 0, .int .i64 0] 35)) (some ⟨w.heap.size, 0, none⟩) [o] := by
  refine .inr ⟨_, rfl, fun j z hz => ?_⟩
  rw [Addr.add_lit, Nat.zero_add, blk_cell (heap_alloc_new w _) j]
  simpa [Ob.vcells] using hz
theorem ho_new {w : World} {X : Obj} {v : Value} (hi : ∀ k, isB v k → isB (.slice none 0 0) k ∨ (w.alloc X).heap.size ≤ k) : ∀ k, isB v k → w.heap.size ≤ k := fun k h => (hi k h).elim (fun e => by simp [isB, Value.ownBlock] at e) (fun e => by simp at e; omega)
theorem SLV.below {w w' : World} {v : Value} {l : List Ob} (h : SLV w v l) (hb : Below w.heap.size w w') : SLV w' v l := by
  rcases h with h0 | ⟨g, cap, cur, rfl, hg, hr⟩
  · exact .inl h0
  · exact .inr ⟨g, cap, cur, rfl, (hb.block _ (Array.getElem?_eq_some_iff.1 hg).1).trans hg, hr⟩
end Ari
end Go.Proofs.YtgbpldfcahajeaaDoor
