/-
  Parts, by a contract: Part.
-/
import Derived.Test.YtigjkkmnellanaaDoorStoOps
import Derived.Test.YtigjkkmnellanaaDoorStoMk
namespace Go.Proofs.YtigjkkmnellanaaDoor
open Go.RowKit
open St
def partR (G : List (Th × Lay)) (o : Ob) (f n : Int) : Ob × Int := if tld G o 6 = none ∧ tld G o 7 = none then (nul, 21) else if liesB f n o.len = true then (prt o f n, 0) else (nul, 11)
/-- an object and an error, answered -/
def ObE (r : Ob × Int) (w : World) (e : Ending) (w' : World) : Prop := e = .returned (.tuple #[r.1.val, .int .i64 r.2]) ∧ Below w.heap.size w w'
theorem cellsOb {w : World} {B : Nat} {v0 v1 v2 v3 v4 v5 v6 v7 : Value} {t : TypeId} (h : w.heap[B]? = some (.cells #[v0, v1, v2, v3, v4, v5, v6, v7] t (0, 0))) : w.cell? ⟨B, 0, none⟩ = some v0 ∧ w.cell? ⟨B, 1, none⟩ = some v1 ∧ w.cell? ⟨B, 2, none⟩ = some v2 ∧ w.cell? ⟨B, 3, none⟩ = some v3 ∧ w.cell? ⟨B, 4, none⟩ = some v4 ∧ w.cell? ⟨B, 5, none⟩ = some v5 ∧ w.cell? ⟨B, 6, none⟩ = some v6 ∧ w.cell? ⟨B, 7, none⟩ = some v7 :=
  ⟨blk_cell h 0, blk_cell h 1, blk_cell h 2, blk_cell h 3, blk_cell h 4, blk_cell h 5, blk_cell h 6, blk_cell h 7⟩
theorem items_len7 {x : Th} (h : x.kind = 7) : x.length = x.items.length := by unfold Th.length; rw [if_neg (by omega), if_pos h]
theorem below_set {B : Nat} {w w' : World} (h : Below B w w') {a : Addr} (ha : B ≤ a.block) (v : Value) : Below B w (w'.setCell a v) := h.setCell ha v
theorem below_put8 {B b : Nat} {w w3 w4 : World} {t : TypeId} {v0 v1 v2 v3 v4 v5 v6 v7 : Value} (h : Below B w w3) (hb : B ≤ b) (hp : Put8 w3 b t v0 v1 v2 v3 v4 v5 v6 v7 w4) : Below B w w4 :=
  h.trans ⟨hp.os, hp.tape, hp.output, by rw [hp.size]; exact Nat.le_refl _, fun k hk => hp.far k (by omega)⟩
theorem tld_bounds {O : Nat → Prop} {w : World} {s : Nat} {fr k : Int} {G : List (Th × Lay)} {o : Ob} {i : Nat} (h : Rep O w s fr G) (ht : tld G o k = some i) : 0 ≤ o.frm ∧ 0 ≤ o.len ∧ o.frm + o.len ≤ 65535 ∧ ∃ x, G[i]? = some x ∧ x.1.kind = k ∧ o.frm + o.len ≤ x.1.length ∧ x.1.length ≤ 65535 := by
  obtain ⟨_, _, x, hx, hk, hl⟩ := tld_some ht
  have hr := h.row i x hx
  have hL := length_le hr.nb hr.ni
  have := liesB_iff.1 hl
  exact ⟨by omega, by omega, by omega, x, hx, hk, by omega, hL⟩
end Go.Proofs.YtigjkkmnellanaaDoor
