/-
  The walk of the law MatJoins.
-/
import Derived.Test.YtlgjlnbdfpncmaaMatJoinsM
import Derived.Deep.DeepCutAuto
import Derived.Deep.RegionHeld3
namespace Go.Proofs.Ytlgjlnbdfpncmaa
open Go.RowKit
open Fx
/-- block B of W holds these six numbers -/
def HasSix (W : World) (B : Nat) (X0 X1 X2 X3 X4 X5 : Int) : Prop := B < W.heap.size ∧ W.cell? ⟨B, 0, none⟩ = some (.int .i64 X0) ∧ W.cell? ⟨B, 1, none⟩ = some (.int .i64 X1) ∧ W.cell? ⟨B, 2, none⟩ = some (.int .i64 X2) ∧
    W.cell? ⟨B, 3, none⟩ = some (.int .i64 X3) ∧ W.cell? ⟨B, 4, none⟩ = some (.int .i64 X4) ∧ W.cell? ⟨B, 5, none⟩ = some (.int .i64 X5)
theorem HasSix.below {W w' : World} {B : Nat} {X0 X1 X2 X3 X4 X5 : Int} (h : HasSix W B X0 X1 X2 X3 X4 X5) (hb : Below W.heap.size W w') : HasSix w' B X0 X1 X2 X3 X4 X5 := by
  obtain ⟨h, h0, h1, h2, h3, h4, h5⟩ := h
  have c := fun o => (mcell hb).1 B o h
  exact ⟨Nat.lt_of_lt_of_le h hb.size, by rw [c]; exact h0, by rw [c]; exact h1, by rw [c]; exact h2, by rw [c]; exact h3, by rw [c]; exact h4, by rw [c]; exact h5⟩
theorem hasSix_new (W : World) (X0 X1 X2 X3 X4 X5 : Int) (T : TypeId) : HasSix (W.alloc (.cells #[.int .i64 X0, .int .i64 X1, .int .i64 X2, .int .i64 X3, .int .i64 X4, .int .i64 X5] T)) W.heap.size X0 X1 X2 X3 X4 X5 := by
  refine ⟨by simp, ?_, ?_, ?_, ?_, ?_, ?_⟩ <;> simp [go_sem]
theorem HasSix.alloc {W : World} {B : Nat} {X0 X1 X2 X3 X4 X5 : Int} (h : HasSix W B X0 X1 X2 X3 X4 X5) (O : Obj) : HasSix (W.alloc O) B X0 X1 X2 X3 X4 X5 := h.below ((Below.refl _ _).alloc (Nat.le_refl _) _)
/-- six numbers in a block of their own, and an error, behind world W -/
def SixAt (W : World) (X0 X1 X2 X3 X4 X5 E : Int) (s t : Value) (wx : World) : Prop :=
  ∃ B, s = .pointer (some ⟨B, 0, none⟩) ∧ t = .int .i64 E ∧ HasSix wx B X0 X1 X2 X3 X4 X5 ∧ Below W.heap.size W wx
theorem bI_1 {W wI : World} (h : Below W.drew.heap.size W.drew wI) : Below W.heap.size W wI := ⟨h.os, h.tape, h.output, h.size, h.block⟩
theorem bI_2 {W wI : World} {O : Obj} (h : Below (W.alloc O).drew.heap.size (W.alloc O).drew wI) : Below W.heap.size W wI := mthen ((Below.refl _ _).alloc (Nat.le_refl _) O) (bI_1 h)
theorem bI_3 {W wI wC : World} {O : Obj} (hJ : Below W.heap.size W wI) (h : Below (wI.alloc O).heap.size (wI.alloc O) wC) : Below W.heap.size W wC := nextB hJ h
theorem zeros_A {W wI wC : World} (h : Below (W.alloc (Obj.cells #[.int .i64 0, .int .i64 0, .int .i64 0, .int .i64 0, .int .i64 0, .int .i64 0] 22)).drew.heap.size (W.alloc (Obj.cells #[.int .i64 0, .int .i64 0, .int .i64 0, .int .i64 0, .int .i64 0, .int .i64 0] 22)).drew wI) (h2 : Below wI.heap.size wI wC) :
    (wC.cell? ⟨W.heap.size, 0, none⟩ = some (.int .i64 0) ∧ wC.cell? ⟨W.heap.size, 1, none⟩ = some (.int .i64 0) ∧ wC.cell? ⟨W.heap.size, 2, none⟩ = some (.int .i64 0) ∧ wC.cell? ⟨W.heap.size, 3, none⟩ = some (.int .i64 0) ∧ wC.cell? ⟨W.heap.size, 4, none⟩ = some (.int .i64 0) ∧ wC.cell? ⟨W.heap.size, 5, none⟩ = some (.int .i64 0)) ∧ ∀ o, wC.frozen? ⟨W.heap.size, o, none⟩ = false := by
  have hb : Below (W.alloc (Obj.cells #[.int .i64 0, .int .i64 0, .int .i64 0, .int .i64 0, .int .i64 0, .int .i64 0] 22)).heap.size (W.alloc (Obj.cells #[.int .i64 0, .int .i64 0, .int .i64 0, .int .i64 0, .int .i64 0, .int .i64 0] 22)) wC := mthen (bI_1 h) h2
  refine ⟨(((hasSix_new W 0 0 0 0 0 0 22).below hb)).2, fun o => ?_⟩
  rw [(mcell hb).2 _ _ (by simp)]; simp [go_sem]
theorem zeros_B {wI wC : World} (h : Below (wI.alloc (Obj.cells #[.int .i64 0, .int .i64 0, .int .i64 0, .int .i64 0, .int .i64 0, .int .i64 0] 22)).heap.size (wI.alloc (Obj.cells #[.int .i64 0, .int .i64 0, .int .i64 0, .int .i64 0, .int .i64 0, .int .i64 0] 22)) wC) :
    (wC.cell? ⟨wI.heap.size, 0, none⟩ = some (.int .i64 0) ∧ wC.cell? ⟨wI.heap.size, 1, none⟩ = some (.int .i64 0) ∧ wC.cell? ⟨wI.heap.size, 2, none⟩ = some (.int .i64 0) ∧ wC.cell? ⟨wI.heap.size, 3, none⟩ = some (.int .i64 0) ∧ wC.cell? ⟨wI.heap.size, 4, none⟩ = some (.int .i64 0) ∧ wC.cell? ⟨wI.heap.size, 5, none⟩ = some (.int .i64 0)) ∧ ∀ o, wC.frozen? ⟨wI.heap.size, o, none⟩ = false := by
  refine ⟨(((hasSix_new wI 0 0 0 0 0 0 22).below h)).2, fun o => ?_⟩
  rw [(mcell h).2 _ _ (by simp)]; simp [go_sem]
theorem zelim_A {P : Prop} {W wI wC : World} (h : Below (W.alloc (Obj.cells #[.int .i64 0, .int .i64 0, .int .i64 0, .int .i64 0, .int .i64 0, .int .i64 0] 22)).drew.heap.size (W.alloc (Obj.cells #[.int .i64 0, .int .i64 0, .int .i64 0, .int .i64 0, .int .i64 0, .int .i64 0] 22)).drew wI) (h2 : Below wI.heap.size wI wC)
    (k : wC.cell? ⟨W.heap.size, 0, none⟩ = some (.int .i64 0) → wC.cell? ⟨W.heap.size, 1, none⟩ = some (.int .i64 0) → wC.cell? ⟨W.heap.size, 2, none⟩ = some (.int .i64 0) → wC.cell? ⟨W.heap.size, 3, none⟩ = some (.int .i64 0) → wC.cell? ⟨W.heap.size, 4, none⟩ = some (.int .i64 0) → wC.cell? ⟨W.heap.size, 5, none⟩ = some (.int .i64 0) → (∀ o, wC.frozen? ⟨W.heap.size, o, none⟩ = false) → P) : P := by
  obtain ⟨⟨k0, k1, k2, k3, k4, k5⟩, kf⟩ := zeros_A h h2
  exact k k0 k1 k2 k3 k4 k5 kf
theorem zelim_B {P : Prop} {wI wC : World} (h : Below (wI.alloc (Obj.cells #[.int .i64 0, .int .i64 0, .int .i64 0, .int .i64 0, .int .i64 0, .int .i64 0] 22)).heap.size (wI.alloc (Obj.cells #[.int .i64 0, .int .i64 0, .int .i64 0, .int .i64 0, .int .i64 0, .int .i64 0] 22)) wC)
    (k : wC.cell? ⟨wI.heap.size, 0, none⟩ = some (.int .i64 0) → wC.cell? ⟨wI.heap.size, 1, none⟩ = some (.int .i64 0) → wC.cell? ⟨wI.heap.size, 2, none⟩ = some (.int .i64 0) → wC.cell? ⟨wI.heap.size, 3, none⟩ = some (.int .i64 0) → wC.cell? ⟨wI.heap.size, 4, none⟩ = some (.int .i64 0) → wC.cell? ⟨wI.heap.size, 5, none⟩ = some (.int .i64 0) → (∀ o, wC.frozen? ⟨wI.heap.size, o, none⟩ = false) → P) : P := by
  obtain ⟨⟨k0, k1, k2, k3, k4, k5⟩, kf⟩ := zeros_B h
  exact k k0 k1 k2 k3 k4 k5 kf
theorem arm_1 {P : Prop} {W wI : World} {B : Nat} {X0 X1 X2 X3 X4 X5 : Int} (h : Below W.drew.heap.size W.drew wI) (hA : HasSix W B X0 X1 X2 X3 X4 X5) (k : Below W.heap.size W wI → wI.cell? ⟨B, 0, none⟩ = some (.int .i64 X0) → wI.cell? ⟨B, 1, none⟩ = some (.int .i64 X1) → wI.cell? ⟨B, 2, none⟩ = some (.int .i64 X2) → wI.cell? ⟨B, 3, none⟩ = some (.int .i64 X3) → wI.cell? ⟨B, 4, none⟩ = some (.int .i64 X4) → wI.cell? ⟨B, 5, none⟩ = some (.int .i64 X5) → P) : P := by
  obtain ⟨_, k0, k1, k2, k3, k4, k5⟩ := hA.below (bI_1 h)
  exact k (bI_1 h) k0 k1 k2 k3 k4 k5
theorem arm_2 {P : Prop} {W wI : World} {O : Obj} {B : Nat} {X0 X1 X2 X3 X4 X5 : Int} (h : Below (W.alloc O).drew.heap.size (W.alloc O).drew wI) (hA : HasSix W B X0 X1 X2 X3 X4 X5) (k : Below W.heap.size W wI → wI.cell? ⟨B, 0, none⟩ = some (.int .i64 X0) → wI.cell? ⟨B, 1, none⟩ = some (.int .i64 X1) → wI.cell? ⟨B, 2, none⟩ = some (.int .i64 X2) → wI.cell? ⟨B, 3, none⟩ = some (.int .i64 X3) → wI.cell? ⟨B, 4, none⟩ = some (.int .i64 X4) → wI.cell? ⟨B, 5, none⟩ = some (.int .i64 X5) → P) : P := by
  obtain ⟨_, k0, k1, k2, k3, k4, k5⟩ := hA.below (bI_2 h)
  exact k (bI_2 h) k0 k1 k2 k3 k4 k5
theorem arm_3 {P : Prop} {W wI wC : World} {B : Nat} {X0 X1 X2 X3 X4 X5 : Int} (hJ : Below W.heap.size W wI) (h : Below wI.heap.size wI wC) (hA : HasSix W B X0 X1 X2 X3 X4 X5) (k : wC.cell? ⟨B, 0, none⟩ = some (.int .i64 X0) → wC.cell? ⟨B, 1, none⟩ = some (.int .i64 X1) → wC.cell? ⟨B, 2, none⟩ = some (.int .i64 X2) → wC.cell? ⟨B, 3, none⟩ = some (.int .i64 X3) → wC.cell? ⟨B, 4, none⟩ = some (.int .i64 X4) → wC.cell? ⟨B, 5, none⟩ = some (.int .i64 X5) → P) : P := by
  obtain ⟨_, k0, k1, k2, k3, k4, k5⟩ := hA.below (mthen hJ h)
  exact k k0 k1 k2 k3 k4 k5
theorem arm_4 {P : Prop} {W wI wC : World} {O : Obj} {B : Nat} {X0 X1 X2 X3 X4 X5 : Int} (hJ : Below W.heap.size W wI) (h : Below (wI.alloc O).heap.size (wI.alloc O) wC) (hA : HasSix W B X0 X1 X2 X3 X4 X5) (k : B ≠ wI.heap.size → wC.cell? ⟨B, 0, none⟩ = some (.int .i64 X0) → wC.cell? ⟨B, 1, none⟩ = some (.int .i64 X1) → wC.cell? ⟨B, 2, none⟩ = some (.int .i64 X2) → wC.cell? ⟨B, 3, none⟩ = some (.int .i64 X3) → wC.cell? ⟨B, 4, none⟩ = some (.int .i64 X4) → wC.cell? ⟨B, 5, none⟩ = some (.int .i64 X5) → P) : P := by
  have hne : B ≠ wI.heap.size := by have := hA.1; have := hJ.size; omega
  obtain ⟨_, k0, k1, k2, k3, k4, k5⟩ := hA.below (nextB hJ h)
  exact k hne k0 k1 k2 k3 k4 k5
theorem six_keep {wC : World} {B B' : Nat} {X0 X1 X2 X3 X4 X5 : Int} {v0 v1 v2 v3 v4 v5 : Value} (hne : B ≠ B') (h : wC.cell? ⟨B, 0, none⟩ = some (.int .i64 X0) ∧ wC.cell? ⟨B, 1, none⟩ = some (.int .i64 X1) ∧ wC.cell? ⟨B, 2, none⟩ = some (.int .i64 X2) ∧ wC.cell? ⟨B, 3, none⟩ = some (.int .i64 X3) ∧ wC.cell? ⟨B, 4, none⟩ = some (.int .i64 X4) ∧ wC.cell? ⟨B, 5, none⟩ = some (.int .i64 X5)) : ((((((wC.setCell ⟨B', 0, none⟩ v0).setCell ⟨B', 1, none⟩ v1).setCell ⟨B', 2, none⟩ v2).setCell ⟨B', 3, none⟩ v3).setCell ⟨B', 4, none⟩ v4).setCell ⟨B', 5, none⟩ v5).cell? ⟨B, 0, none⟩ = some (.int .i64 X0) ∧ ((((((wC.setCell ⟨B', 0, none⟩ v0).setCell ⟨B', 1, none⟩ v1).setCell ⟨B', 2, none⟩ v2).setCell ⟨B', 3, none⟩ v3).setCell ⟨B', 4, none⟩ v4).setCell ⟨B', 5, none⟩ v5).cell? ⟨B, 1, none⟩ = some (.int .i64 X1) ∧ ((((((wC.setCell ⟨B', 0, none⟩ v0).setCell ⟨B', 1, none⟩ v1).setCell ⟨B', 2, none⟩ v2).setCell ⟨B', 3, none⟩ v3).setCell ⟨B', 4, none⟩ v4).setCell ⟨B', 5, none⟩ v5).cell? ⟨B, 2, none⟩ = some (.int .i64 X2) ∧ ((((((wC.setCell ⟨B', 0, none⟩ v0).setCell ⟨B', 1, none⟩ v1).setCell ⟨B', 2, none⟩ v2).setCell ⟨B', 3, none⟩ v3).setCell ⟨B', 4, none⟩ v4).setCell ⟨B', 5, none⟩ v5).cell? ⟨B, 3, none⟩ = some (.int .i64 X3) ∧ ((((((wC.setCell ⟨B', 0, none⟩ v0).setCell ⟨B', 1, none⟩ v1).setCell ⟨B', 2, none⟩ v2).setCell ⟨B', 3, none⟩ v3).setCell ⟨B', 4, none⟩ v4).setCell ⟨B', 5, none⟩ v5).cell? ⟨B, 4, none⟩ = some (.int .i64 X4) ∧ ((((((wC.setCell ⟨B', 0, none⟩ v0).setCell ⟨B', 1, none⟩ v1).setCell ⟨B', 2, none⟩ v2).setCell ⟨B', 3, none⟩ v3).setCell ⟨B', 4, none⟩ v4).setCell ⟨B', 5, none⟩ v5).cell? ⟨B, 5, none⟩ = some (.int .i64 X5) := by
  have c : ∀ o, ((((((wC.setCell ⟨B', 0, none⟩ v0).setCell ⟨B', 1, none⟩ v1).setCell ⟨B', 2, none⟩ v2).setCell ⟨B', 3, none⟩ v3).setCell ⟨B', 4, none⟩ v4).setCell ⟨B', 5, none⟩ v5).cell? ⟨B, o, none⟩ = wC.cell? ⟨B, o, none⟩ := by
    intro o
    rw [World.cell?_setCell_other _ _ _ _ (adr_ne2 _ _ _ _ (Ne.symm hne)), World.cell?_setCell_other _ _ _ _ (adr_ne2 _ _ _ _ (Ne.symm hne)), World.cell?_setCell_other _ _ _ _ (adr_ne2 _ _ _ _ (Ne.symm hne)), World.cell?_setCell_other _ _ _ _ (adr_ne2 _ _ _ _ (Ne.symm hne)), World.cell?_setCell_other _ _ _ _ (adr_ne2 _ _ _ _ (Ne.symm hne)), World.cell?_setCell_other _ _ _ _ (adr_ne2 _ _ _ _ (Ne.symm hne))]
  rw [c, c, c, c, c, c]; exact h
theorem six_put {W wC : World} {B : Nat} {X0 X1 X2 X3 X4 X5 E : Int} (hB : W.heap.size ≤ B) (hK : Below W.heap.size W wC)
    (hz : wC.cell? ⟨B, 0, none⟩ = some (.int .i64 0) ∧ wC.cell? ⟨B, 1, none⟩ = some (.int .i64 0) ∧ wC.cell? ⟨B, 2, none⟩ = some (.int .i64 0) ∧ wC.cell? ⟨B, 3, none⟩ = some (.int .i64 0) ∧ wC.cell? ⟨B, 4, none⟩ = some (.int .i64 0) ∧ wC.cell? ⟨B, 5, none⟩ = some (.int .i64 0)) :
    SixAt W X0 X1 X2 X3 X4 X5 E (.pointer (some ⟨B, 0, none⟩)) (.int .i64 E) ((((((wC.setCell ⟨B, 0, none⟩ (.int .i64 X0)).setCell ⟨B, 1, none⟩ (.int .i64 X1)).setCell ⟨B, 2, none⟩ (.int .i64 X2)).setCell ⟨B, 3, none⟩ (.int .i64 X3)).setCell ⟨B, 4, none⟩ (.int .i64 X4)).setCell ⟨B, 5, none⟩ (.int .i64 X5)) := by
  have hlt : B < wC.heap.size := World.block_lt_of_cell? wC _ hz.1
  refine ⟨B, rfl, rfl, ⟨by simpa [World.setCell] using hlt, ?_⟩, ?_⟩
  · refine m6_put (fun i hi => ⟨.int .i64 0, ?_⟩) _ _ _ _ _ _
    match i, hi with
    | 0, _ => exact hz.1
    | 1, _ => exact hz.2.1
    | 2, _ => exact hz.2.2.1
    | 3, _ => exact hz.2.2.2.1
    | 4, _ => exact hz.2.2.2.2.1
    | 5, _ => exact hz.2.2.2.2.2
  · exact (((((hK.setCell hB _).setCell hB _).setCell hB _).setCell hB _).setCell hB _).setCell hB _
theorem six_A {W wI wC : World} {X0 X1 X2 X3 X4 X5 E : Int} (h : Below (W.alloc (Obj.cells #[.int .i64 0, .int .i64 0, .int .i64 0, .int .i64 0, .int .i64 0, .int .i64 0] 22)).drew.heap.size (W.alloc (Obj.cells #[.int .i64 0, .int .i64 0, .int .i64 0, .int .i64 0, .int .i64 0, .int .i64 0] 22)).drew wI) (h2 : Below wI.heap.size wI wC) :
    SixAt W X0 X1 X2 X3 X4 X5 E (.pointer (some ⟨W.heap.size, 0, none⟩)) (.int .i64 E) ((((((wC.setCell ⟨W.heap.size, 0, none⟩ (.int .i64 X0)).setCell ⟨W.heap.size, 1, none⟩ (.int .i64 X1)).setCell ⟨W.heap.size, 2, none⟩ (.int .i64 X2)).setCell ⟨W.heap.size, 3, none⟩ (.int .i64 X3)).setCell ⟨W.heap.size, 4, none⟩ (.int .i64 X4)).setCell ⟨W.heap.size, 5, none⟩ (.int .i64 X5)) := six_put (Nat.le_refl _) (mthen (bI_2 h) h2) (zeros_A h h2).1
theorem six_B {W wI wC : World} {X0 X1 X2 X3 X4 X5 E : Int} (hJ : Below W.heap.size W wI) (h : Below (wI.alloc (Obj.cells #[.int .i64 0, .int .i64 0, .int .i64 0, .int .i64 0, .int .i64 0, .int .i64 0] 22)).heap.size (wI.alloc (Obj.cells #[.int .i64 0, .int .i64 0, .int .i64 0, .int .i64 0, .int .i64 0, .int .i64 0] 22)) wC) :
    SixAt W X0 X1 X2 X3 X4 X5 E (.pointer (some ⟨wI.heap.size, 0, none⟩)) (.int .i64 E) ((((((wC.setCell ⟨wI.heap.size, 0, none⟩ (.int .i64 X0)).setCell ⟨wI.heap.size, 1, none⟩ (.int .i64 X1)).setCell ⟨wI.heap.size, 2, none⟩ (.int .i64 X2)).setCell ⟨wI.heap.size, 3, none⟩ (.int .i64 X3)).setCell ⟨wI.heap.size, 4, none⟩ (.int .i64 X4)).setCell ⟨wI.heap.size, 5, none⟩ (.int .i64 X5)) := six_put hJ.size (nextB hJ h) (zeros_B h).1
theorem six_C {W wI wC : World} {X0 X1 X2 X3 X4 X5 E : Int} (hJ : Below W.heap.size W wI) (h : Below wI.heap.size wI wC) :
    SixAt W X0 X1 X2 X3 X4 X5 E (.pointer (some ⟨wC.heap.size, 0, none⟩)) (.int .i64 E) (wC.alloc (.cells #[.int .i64 X0, .int .i64 X1, .int .i64 X2, .int .i64 X3, .int .i64 X4, .int .i64 X5] 22)) :=
  ⟨wC.heap.size, rfl, rfl, hasSix_new _ _ _ _ _ _ _ _, (mthen hJ h).alloc (mthen hJ h).size _⟩
def FitRel (L : List Int) (f i : Value) : Prop := ∃ k : Nat, k ≤ 6 ∧ f = .bool (preF L k) ∧ i = .int .i64 k
set_option maxHeartbeats 4000000 in
theorem lawMatJoins (a0 a1 a2 a3 a4 a5 b0 b1 b2 b3 b4 b5 : Int) (w : World) :
    Calls Try.prog 4 #[.agg #[.int .i64 a0, .int .i64 a1, .int .i64 a2, .int .i64 a3, .int .i64 a4, .int .i64 a5], .agg #[.int .i64 b0, .int .i64 b1, .int .i64 b2, .int .i64 b3, .int .i64 b4, .int .i64 b5]] w fun e w' => e = .returned (.bool true) ∧ Below w.heap.size w w' := by
  have h1 := fun w => matConcat_at a0 a1 a2 a3 a4 a5 b0 b1 b2 b3 b4 b5 w
  have h2 := fun w => refConcat_at a0 a1 a2 a3 a4 a5 b0 b1 b2 b3 b4 b5 w
  unfold ConE MatE at h1 h2
  obtain ⟨x0, x1, x2, x3, x4, x5, ex, h3, hx⟩ := concat_id a0 a1 a2 a3 a4 a5
  obtain ⟨y0, y1, y2, y3, y4, y5, ey, h4, hy⟩ := id_concat a0 a1 a2 a3 a4 a5
  generalize conE a0 a1 a2 a3 a4 a5 b0 b1 b2 b3 b4 b5 = E at h1 h2
  generalize sel E (linV b0 a0 b2 a1) = v0 at h1 h2
  generalize sel E (linV b1 a0 b3 a1) = v1 at h1 h2
  generalize sel E (linV b0 a2 b2 a3) = v2 at h1 h2
  generalize sel E (linV b1 a2 b3 a3) = v3 at h1 h2
  generalize sel E (lin1V b0 a4 b2 a5 b4) = v4 at h1 h2
  generalize sel E (lin1V b1 a4 b3 a5 b5) = v5 at h1 h2
  unfold Six' at h3 h4
  have h5 := fun w => identity_at w
  unfold Mat6 at h5
  have H1 := Lib.hid h1
  have H2 := Lib.hid h2
  have H3 := Lib.hid h3
  have H4 := Lib.hid h4
  have H5 := Lib.hid h5
  have HX := Lib.hid hx
  have HY := Lib.hid hy
  clear h1 h2 h3 h4 h5 hx hy
  go_enter Try.func4, Try.ntmps4
  go_wp2_with fail
  refine (H1.out _).mono ?_; rintro e w1 ⟨rfl, hb1⟩
  have p0 : ∀ o, _ := fun o => (mcell hb1).1 w.heap.size o (by simp <;> omega)
  have p1 : ∀ o, _ := fun o => (mcell hb1).1 (w.heap.size + 1) o (by simp <;> omega)
  have s1 : w.heap.size + 1 < w1.heap.size := by have := hb1.size; simp at this; omega
  have s0 : w.heap.size < w1.heap.size := by omega
  have HB1 := Lib.hid (mthen (((Below.refl _ w).alloc (by simp) _).alloc (by simp <;> omega) _) hb1)
  clear hb1
  go_wp2_with fail
  refine (H2.out _).mono ?_; rintro e w2 ⟨rfl, hb2⟩
  have q0 := keepL hb2 w.heap.size s0
  have q2 := newL hb2
  have u2 : w1.heap.size < w2.heap.size := sizeL hb2
  have u0 : w.heap.size < w2.heap.size := by omega
  have HB2 := Lib.hid (nextB HB1.out hb2)
  clear hb2
  go_upto_region 3 with fail
  obtain ⟨W, hW⟩ : ∃ W, w2.alloc (Obj.cells #[.int .i64 v0, .int .i64 v1, .int .i64 v2, .int .i64 v3, .int .i64 v4, .int .i64 v5] 22) = W := ⟨_, rfl⟩
  rw [hW]
  have hA : HasSix W w.heap.size a0 a1 a2 a3 a4 a5 := by
    rw [← hW]
    refine HasSix.alloc ⟨u0, ?_, ?_, ?_, ?_, ?_, ?_⟩ _
    all_goals (rw [q0, p0]; simp [go_sem])
  have hN : HasSix W w2.heap.size v0 v1 v2 v3 v4 v5 := by rw [← hW]; exact hasSix_new _ _ _ _ _ _ _ _
  have hM : HasSix W w1.heap.size v0 v1 v2 v3 v4 v5 := by
    rw [← hW]
    refine HasSix.alloc ⟨u2, ?_, ?_, ?_, ?_, ?_, ?_⟩ _
    all_goals (rw [q2]; simp [go_sem])
  have hB : Below w.heap.size w W := by rw [← hW]; exact HB2.out.alloc HB2.out.size _
  have HA := Lib.hid hA
  have HN := Lib.hid hN
  have HM := Lib.hid hM
  have HBW := Lib.hid hB
  have hneA : w.heap.size ≠ W.heap.size := by have := hA.1; omega
  obtain ⟨_, m0, m1, m2, m3, m4, m5⟩ := hA
  clear hW hN hM hB p0 p1 s1 s0 HB1 q0 q2 u2 u0 HB2
  go_cut [9, 10] (fun s t wx => SixAt W x0 x1 x2 x3 x4 x5 ex s t wx)
  case first =>
    go_region_held3 (fun w' => w'.cell? ⟨w.heap.size, 0, none⟩ = some (.int .i64 a0) ∧ w'.cell? ⟨w.heap.size, 1, none⟩ = some (.int .i64 a1) ∧ w'.cell? ⟨w.heap.size, 2, none⟩ = some (.int .i64 a2) ∧ w'.cell? ⟨w.heap.size, 3, none⟩ = some (.int .i64 a3) ∧ w'.cell? ⟨w.heap.size, 4, none⟩ = some (.int .i64 a4) ∧ w'.cell? ⟨w.heap.size, 5, none⟩ = some (.int .i64 a5)) (first | with_reducible exact ⟨j0, j1, j2, j3, j4, j5⟩ | with_reducible exact ⟨i0, i1, i2, i3, i4, i5⟩ | with_reducible exact six_keep hneB ⟨j0, j1, j2, j3, j4, j5⟩ | with_reducible exact six_keep hneA ⟨j0, j1, j2, j3, j4, j5⟩ | go_keep)
      (first | (go_at_call 15; refine (H5.out _).mono ?_; rintro e wI ⟨rfl, hbI⟩; first | (refine arm_2 hbI HA.out ?_; intro hbJ i0 i1 i2 i3 i4 i5) | (refine arm_1 hbI HA.out ?_; intro hbJ i0 i1 i2 i3 i4 i5)) | (go_at_call 13; refine (H3.out _).mono ?_; rintro e wC ⟨rfl, hbC⟩; first | (refine zelim_B hbC ?_; intro k0 k1 k2 k3 k4 k5 kf; refine arm_4 hbJ hbC HA.out ?_; intro hneB j0 j1 j2 j3 j4 j5) | (refine zelim_A hbI hbC ?_; intro k0 k1 k2 k3 k4 k5 kf; refine arm_3 hbJ hbC HA.out ?_; intro j0 j1 j2 j3 j4 j5) | (refine arm_3 hbJ hbC HA.out ?_; intro j0 j1 j2 j3 j4 j5)))
    all_goals (go_wp2_with fail; go_meet; first | with_reducible exact six_A hbI hbC | with_reducible exact six_B hbJ hbC | with_reducible exact six_C hbJ hbC)
  case rest =>
  obtain ⟨B3, rfl, rfl, hX, hb3⟩ := hcut
  obtain ⟨W4, hW4⟩ : ∃ v, v = wc := ⟨_, rfl⟩
  subst hW4
  have hA4 := HA.out.below hb3
  have HN4 := Lib.hid (HN.out.below hb3)
  have HM4 := Lib.hid (HM.out.below hb3)
  have HX4 := Lib.hid hX
  have HB4 := Lib.hid (mthen HBW.out hb3)
  clear HA HN HM HBW hX hb3 hneA m0 m1 m2 m3 m4 m5
  have HA := Lib.hid hA4
  have hneA : w.heap.size ≠ W4.heap.size := by have := hA4.1; omega
  obtain ⟨_, m0, m1, m2, m3, m4, m5⟩ := hA4
  go_upto_region 4 with fail
  go_cut [11, 12] (fun s t wx => SixAt W4 y0 y1 y2 y3 y4 y5 ey s t wx)
  case first =>
    go_region_held3 (fun w' => w'.cell? ⟨w.heap.size, 0, none⟩ = some (.int .i64 a0) ∧ w'.cell? ⟨w.heap.size, 1, none⟩ = some (.int .i64 a1) ∧ w'.cell? ⟨w.heap.size, 2, none⟩ = some (.int .i64 a2) ∧ w'.cell? ⟨w.heap.size, 3, none⟩ = some (.int .i64 a3) ∧ w'.cell? ⟨w.heap.size, 4, none⟩ = some (.int .i64 a4) ∧ w'.cell? ⟨w.heap.size, 5, none⟩ = some (.int .i64 a5)) (first | with_reducible exact ⟨j0, j1, j2, j3, j4, j5⟩ | with_reducible exact ⟨i0, i1, i2, i3, i4, i5⟩ | with_reducible exact six_keep hneB ⟨j0, j1, j2, j3, j4, j5⟩ | with_reducible exact six_keep hneA ⟨j0, j1, j2, j3, j4, j5⟩ | go_keep)
      (first | (go_at_call 15; refine (H5.out _).mono ?_; rintro e wI ⟨rfl, hbI⟩; first | (refine arm_2 hbI HA.out ?_; intro hbJ i0 i1 i2 i3 i4 i5) | (refine arm_1 hbI HA.out ?_; intro hbJ i0 i1 i2 i3 i4 i5)) | (go_at_call 13; refine (H4.out _).mono ?_; rintro e wC ⟨rfl, hbC⟩; first | (refine zelim_B hbC ?_; intro k0 k1 k2 k3 k4 k5 kf; refine arm_4 hbJ hbC HA.out ?_; intro hneB j0 j1 j2 j3 j4 j5) | (refine zelim_A hbI hbC ?_; intro k0 k1 k2 k3 k4 k5 kf; refine arm_3 hbJ hbC HA.out ?_; intro j0 j1 j2 j3 j4 j5) | (refine arm_3 hbJ hbC HA.out ?_; intro j0 j1 j2 j3 j4 j5)))
    all_goals (go_wp2_with fail; go_meet; first | with_reducible exact six_A hbI hbC | with_reducible exact six_B hbJ hbC | with_reducible exact six_C hbJ hbC)
  case rest =>
  obtain ⟨B4, rfl, rfl, hY, hb4⟩ := hcut
  obtain ⟨W5, hW5⟩ : ∃ v, v = wc := ⟨_, rfl⟩
  subst hW5
  have hA5 := HA.out.below hb4
  have HN5 := Lib.hid (HN4.out.below hb4)
  have HM5 := Lib.hid (HM4.out.below hb4)
  have HX5 := Lib.hid (HX4.out.below hb4)
  have HY5 := Lib.hid hY
  have HB5 := Lib.hid (mthen HB4.out hb4)
  clear HA HN4 HM4 HX4 HB4 hY hb4 hneA m0 m1 m2 m3 m4 m5
  have HA5 := Lib.hid hA5
  obtain ⟨_, m0, m1, m2, m3, m4, m5⟩ := hA5
  go_wp2_with fail
  go_loop [13, 14] (FitRel [a0, a1, a2, a3, a4, a5]) (fun _ i => 6 - (intOf i).toNat)
  case atStart => exact ⟨0, by omega, rfl, rfl⟩
  case round =>
    obtain ⟨k, hk, rfl, rfl⟩ := hrel
    by_cases hlt : k < 6
    · obtain ⟨b, hb⟩ : ∃ b, preF [a0, a1, a2, a3, a4, a5] k = b := ⟨_, rfl⟩
      rw [hb]
      have HPB := Lib.hid hb
      clear hb
      have hcase : k = 0 ∨ k = 1 ∨ k = 2 ∨ k = 3 ∨ k = 4 ∨ k = 5 := by omega
      rcases hcase with rfl | rfl | rfl | rfl | rfl | rfl
      · cases b
        · go_wp2_with fail
          go_round
          case rel => exact ⟨1, by omega, by rw [preF_step (z := a0) rfl, HPB.out]; rfl, rfl⟩
          case measure => simp [intOf]
        · go_wp2_with fail
          refine (refFits_any _ _).mono ?_; rintro e w' ⟨rfl, rfl⟩
          go_wp2_with fail
          go_round
          case rel => exact ⟨1, by omega, by rw [preF_step (z := a0) rfl, HPB.out]; rfl, rfl⟩
          case measure => simp [intOf]
      · cases b
        · go_wp2_with fail
          go_round
          case rel => exact ⟨2, by omega, by rw [preF_step (z := a1) rfl, HPB.out]; rfl, rfl⟩
          case measure => simp [intOf]
        · go_wp2_with fail
          refine (refFits_any _ _).mono ?_; rintro e w' ⟨rfl, rfl⟩
          go_wp2_with fail
          go_round
          case rel => exact ⟨2, by omega, by rw [preF_step (z := a1) rfl, HPB.out]; rfl, rfl⟩
          case measure => simp [intOf]
      · cases b
        · go_wp2_with fail
          go_round
          case rel => exact ⟨3, by omega, by rw [preF_step (z := a2) rfl, HPB.out]; rfl, rfl⟩
          case measure => simp [intOf]
        · go_wp2_with fail
          refine (refFits_any _ _).mono ?_; rintro e w' ⟨rfl, rfl⟩
          go_wp2_with fail
          go_round
          case rel => exact ⟨3, by omega, by rw [preF_step (z := a2) rfl, HPB.out]; rfl, rfl⟩
          case measure => simp [intOf]
      · cases b
        · go_wp2_with fail
          go_round
          case rel => exact ⟨4, by omega, by rw [preF_step (z := a3) rfl, HPB.out]; rfl, rfl⟩
          case measure => simp [intOf]
        · go_wp2_with fail
          refine (refFits_any _ _).mono ?_; rintro e w' ⟨rfl, rfl⟩
          go_wp2_with fail
          go_round
          case rel => exact ⟨4, by omega, by rw [preF_step (z := a3) rfl, HPB.out]; rfl, rfl⟩
          case measure => simp [intOf]
      · cases b
        · go_wp2_with fail
          go_round
          case rel => exact ⟨5, by omega, by rw [preF_step (z := a4) rfl, HPB.out]; rfl, rfl⟩
          case measure => simp [intOf]
        · go_wp2_with fail
          refine (refFits_any _ _).mono ?_; rintro e w' ⟨rfl, rfl⟩
          go_wp2_with fail
          go_round
          case rel => exact ⟨5, by omega, by rw [preF_step (z := a4) rfl, HPB.out]; rfl, rfl⟩
          case measure => simp [intOf]
      · cases b
        · go_wp2_with fail
          go_round
          case rel => exact ⟨6, by omega, by rw [preF_step (z := a5) rfl, HPB.out]; rfl, rfl⟩
          case measure => simp [intOf]
        · go_wp2_with fail
          refine (refFits_any _ _).mono ?_; rintro e w' ⟨rfl, rfl⟩
          go_wp2_with fail
          go_round
          case rel => exact ⟨6, by omega, by rw [preF_step (z := a5) rfl, HPB.out]; rfl, rfl⟩
          case measure => simp [intOf]
    · obtain rfl : k = 6 := by omega
      clear hk hlt
      cases hb : preF [a0, a1, a2, a3, a4, a5] 6
      · clear HX HY hb
        have HK := Lib.hid (And.intro HN5.out HM5.out)
        clear HN5 HM5 m0 m1 m2 m3 m4 m5 HA5 HX5 HY5
        go_wp2_with fail
        refine (answers_at _).mono ?_; rintro e w6 ⟨rfl, hb6⟩
        obtain ⟨_, n0, n1, n2, n3, n4, n5⟩ := HK.out.1.below hb6
        obtain ⟨_, g0, g1, g2, g3, g4, g5⟩ := HK.out.2.below hb6
        have HB6 := Lib.hid (mthen HB5.out hb6)
        clear hb6 HK HB5
        have hq := eq6_same
        go_wp2_with fail
        go_ret
        exact ⟨rfl, HB6.out⟩
      · obtain ⟨rfl, rfl, rfl, rfl, rfl, rfl, rfl⟩ := HX.out hb
        obtain ⟨rfl, rfl, rfl, rfl, rfl, rfl, rfl⟩ := HY.out hb
        clear HX HY hb
        have HK := Lib.hid (And.intro HN5.out (And.intro HM5.out (And.intro HA5.out (And.intro HX5.out HY5.out))))
        clear HN5 HM5 m0 m1 m2 m3 m4 m5 HA5 HX5 HY5
        go_wp2_with fail
        refine (answers_at _).mono ?_; rintro e w6 ⟨rfl, hb6⟩
        obtain ⟨_, n0, n1, n2, n3, n4, n5⟩ := HK.out.1.below hb6
        obtain ⟨_, g0, g1, g2, g3, g4, g5⟩ := HK.out.2.1.below hb6
        obtain ⟨_, c0, c1, c2, c3, c4, c5⟩ := HK.out.2.2.1.below hb6
        obtain ⟨_, d0, d1, d2, d3, d4, d5⟩ := HK.out.2.2.2.1.below hb6
        obtain ⟨_, f0, f1, f2, f3, f4, f5⟩ := HK.out.2.2.2.2.below hb6
        have HB6 := Lib.hid (mthen HB5.out hb6)
        clear hb6 HK HB5
        have hq := eq6_same
        go_wp2_with fail
        go_ret
        exact ⟨rfl, HB6.out⟩
end Go.Proofs.Ytlgjlnbdfpncmaa
