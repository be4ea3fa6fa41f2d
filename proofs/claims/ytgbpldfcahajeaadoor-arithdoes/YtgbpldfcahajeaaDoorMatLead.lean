/-
  The contracts of delta and apply, and of what is worked out, or the first error.
-/
import Derived.Test.YtgbpldfcahajeaaDoorMatWork
import Derived.RegionTactic
import Derived.ChangeAlike
namespace Go.Proofs.YtgbpldfcahajeaaDoor
open Go.RowKit
open Fx
def KpP (b : Nat) (X Y E : Int) (w : World) (e : Ending) (w' : World) : Prop :=
  e = .returned (.agg #[.int .i64 X, .int .i64 Y]) ∧ But b w w' ∧ w'.cell? ⟨b, 0, none⟩ = some (.int .i64 E) ∧ w'.frozen? ⟨b, 0, none⟩ = false
theorem adr_ne (B i j : Nat) (h : i ≠ j) : (⟨B, i, none⟩ : Addr) ≠ ⟨B, j, none⟩ := fun e => h (Addr.mk.inj e).2.1
theorem adr_ne2 (B C i j : Nat) (h : B ≠ C) : (⟨B, i, none⟩ : Addr) ≠ ⟨C, j, none⟩ := fun e => h (Addr.mk.inj e).1
theorem pt_put {B : Nat} {W : World} {u0 u1 : Value} (h0 : W.cell? ⟨B, 0, none⟩ = some u0) (h1 : W.cell? ⟨B, 1, none⟩ = some u1) (v0 v1 : Value) :
    ((W.setCell ⟨B, 0, none⟩ v0).setCell ⟨B, 1, none⟩ v1).cell? ⟨B, 0, none⟩ = some v0 ∧ ((W.setCell ⟨B, 0, none⟩ v0).setCell ⟨B, 1, none⟩ v1).cell? ⟨B, 1, none⟩ = some v1 := by
  refine ⟨?_, ?_⟩
  · rw [World.cell?_setCell_other _ _ _ _ (adr_ne _ _ _ (by omega)), World.cell?_setCell_same _ _ _ h0]
  · rw [World.cell?_setCell_same _ _ _ (u := u1)]
    rw [World.cell?_setCell_other _ _ _ _ (adr_ne _ _ _ (by omega))]; exact h1
end Go.Proofs.YtgbpldfcahajeaaDoor
