/-
  The document's own Arith: what its operands are (made by genref.py).
-/
import Derived.Test.YtgbpldfcahajeaaDoorAriRef
import Derived.Deep.RegionWith
namespace Go.Proofs.YtgbpldfcahajeaaDoor
open Go.RowKit
open Fx
namespace Ari
/-- the document's value of an object in block B from place p on -/
structure At10 (w : World) (B p : Nat) (o : Ob) : Prop where
  c0 : w.cell? ⟨B, p, none⟩ = some (.int .i64 o.kind)
  c1 : w.cell? ⟨B, p + 1, none⟩ = some (.bool o.exec)
  c2 : w.cell? ⟨B, p + 2, none⟩ = some (.int .i64 o.acc)
  c3 : w.cell? ⟨B, p + 3, none⟩ = some (.int .i64 o.n)
  c4 : w.cell? ⟨B, p + 4, none⟩ = some (.string o.name)
  c5 : w.cell? ⟨B, p + 5, none⟩ = some (.pointer none)
  c6 : w.cell? ⟨B, p + 6, none⟩ = some (.pointer none)
  c7 : w.cell? ⟨B, p + 7, none⟩ = some (.pointer none)
  c8 : w.cell? ⟨B, p + 8, none⟩ = some (.int .i64 0)
  c9 : w.cell? ⟨B, p + 9, none⟩ = some (.int .i64 0)
end Ari
end Go.Proofs.YtgbpldfcahajeaaDoor
