/-
  The contracts of ref01's Delta and Apply, and of mat's Delta.
-/
import Derived.Test.YtgbpldfcahajeaaDoorMatApply
import Derived.Deep.DeepCutAuto
import Derived.Deep.RegionWith
namespace Go.Proofs.YtgbpldfcahajeaaDoor
open Go.RowKit
open Fx
end Go.Proofs.YtgbpldfcahajeaaDoor
