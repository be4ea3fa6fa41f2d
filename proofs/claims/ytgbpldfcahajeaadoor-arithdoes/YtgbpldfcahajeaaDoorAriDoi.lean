/-
  The second operand, as the walk reads it (made by gendoes.py).
-/
import Derived.Test.YtgbpldfcahajeaaDoorAriDoh
namespace Go.Proofs.YtgbpldfcahajeaaDoor
open Go.RowKit
open Fx
namespace Ari
theorem src_twoB {w : World} {ad : Addr} {o p : Ob} {l : List Ob} (h : SrcO w (some ad) (o :: p :: l)) : ObA w ⟨ad.block, ad.off + 8, none⟩ p := by
  have e : ad.add 8 = ⟨ad.block, ad.off + 8, none⟩ := by unfold Addr.add; simp
  have h2 := src_two h
  rw [e] at h2
  exact h2
end Ari
end Go.Proofs.YtgbpldfcahajeaaDoor
