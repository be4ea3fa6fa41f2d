/-
  The contracts of the worker's longer methods: a line of a matrix, the cross product, the determinant, delta and apply; and what is worked out, or the first error.
-/
import Derived.Test.YtgbpldfcahajeaaDoorMatMath
import Derived.LoopN
namespace Go.Proofs.YtgbpldfcahajeaaDoor
open Go.RowKit
open Fx
end Go.Proofs.YtgbpldfcahajeaaDoor
