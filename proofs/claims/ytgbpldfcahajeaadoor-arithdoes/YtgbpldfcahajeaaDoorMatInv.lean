/-
  The contracts of Invert (mat and ref01).
-/
import Derived.Test.YtgbpldfcahajeaaDoorMatSix
import Derived.BigQuiet
import Derived.Deep.QuietTactic
namespace Go.Proofs.YtgbpldfcahajeaaDoor
open Go.RowKit
open Fx
theorem mdraws {B : Nat} {v w : World} (h : Below B v w) (n : Nat) : Below B v (w.drewN n) := h.trans ⟨rfl, rfl, rfl, Nat.le_refl _, fun _ _ => rfl⟩
/-- block B of W holds these six numbers, and may be written -/
def R6 (W : World) (B : Nat) (X0 X1 X2 X3 X4 X5 : Int) : Prop := B < W.heap.size ∧ (∀ o, W.frozen? ⟨B, o, none⟩ = false) ∧ W.cell? ⟨B, 0, none⟩ = some (.int .i64 X0) ∧ W.cell? ⟨B, 1, none⟩ = some (.int .i64 X1) ∧ W.cell? ⟨B, 2, none⟩ = some (.int .i64 X2) ∧ W.cell? ⟨B, 3, none⟩ = some (.int .i64 X3) ∧ W.cell? ⟨B, 4, none⟩ = some (.int .i64 X4) ∧ W.cell? ⟨B, 5, none⟩ = some (.int .i64 X5)
theorem R6.lt {W : World} {B : Nat} {X0 X1 X2 X3 X4 X5 : Int} (h : R6 W B X0 X1 X2 X3 X4 X5) : B < W.heap.size := h.1
theorem R6.call {W w' : World} {B b : Nat} {X0 X1 X2 X3 X4 X5 : Int} (h : R6 W B X0 X1 X2 X3 X4 X5) (hb : But b W w') (hne : B ≠ b) : R6 w' B X0 X1 X2 X3 X4 X5 := by
  obtain ⟨h, hf, h0, h1, h2, h3, h4, h5⟩ := h
  have c := hb.cell B h hne
  exact ⟨Nat.lt_of_lt_of_le h hb.size, fun o => by rw [hb.frozen B h hne o]; exact hf o, by rw [c]; exact h0, by rw [c]; exact h1, by rw [c]; exact h2, by rw [c]; exact h3, by rw [c]; exact h4, by rw [c]; exact h5⟩
theorem R6.other {W : World} {B O : Nat} {X0 X1 X2 X3 X4 X5 : Int} (h : R6 W B X0 X1 X2 X3 X4 X5) (hne : B ≠ O) (i : Nat) (v : Value) : R6 (W.setCell ⟨O, i, none⟩ v) B X0 X1 X2 X3 X4 X5 := by
  obtain ⟨h, hf, h0, h1, h2, h3, h4, h5⟩ := h
  have c : ∀ o, (W.setCell ⟨O, i, none⟩ v).cell? ⟨B, o, none⟩ = W.cell? ⟨B, o, none⟩ := fun o => World.cell?_setCell_other _ _ _ _ (adr_ne2 _ _ _ _ (Ne.symm hne))
  exact ⟨by simpa [World.setCell] using h, fun o => (World.frozen?_setCell _ _ _ _).trans (hf o), by rw [c]; exact h0, by rw [c]; exact h1, by rw [c]; exact h2, by rw [c]; exact h3, by rw [c]; exact h4, by rw [c]; exact h5⟩
theorem r6_new (W : World) (X0 X1 X2 X3 X4 X5 : Int) (T : TypeId) : R6 (W.alloc (.cells #[.int .i64 X0, .int .i64 X1, .int .i64 X2, .int .i64 X3, .int .i64 X4, .int .i64 X5] T)) W.heap.size X0 X1 X2 X3 X4 X5 := by
  refine ⟨by simp, fun o => by simp [go_sem], ?_, ?_, ?_, ?_, ?_, ?_⟩ <;> simp [go_sem]
theorem R6.alloc {W : World} {B : Nat} {X0 X1 X2 X3 X4 X5 : Int} (h : R6 W B X0 X1 X2 X3 X4 X5) (O : Obj) : R6 (W.alloc O) B X0 X1 X2 X3 X4 X5 := by
  obtain ⟨h, hf, h0, h1, h2, h3, h4, h5⟩ := h
  have hb : Below W.heap.size W (W.alloc O) := (Below.refl _ _).alloc (Nat.le_refl _) _
  have c := fun o => (mcell hb).1 B o h
  exact ⟨Nat.lt_of_lt_of_le h hb.size, fun o => by rw [(mcell hb).2 B o h]; exact hf o, by rw [c]; exact h0, by rw [c]; exact h1, by rw [c]; exact h2, by rw [c]; exact h3, by rw [c]; exact h4, by rw [c]; exact h5⟩
theorem R6.below {W w' : World} {B : Nat} {X0 X1 X2 X3 X4 X5 : Int} (h : R6 W B X0 X1 X2 X3 X4 X5) (hb : Below W.heap.size W w') : R6 w' B X0 X1 X2 X3 X4 X5 := by
  obtain ⟨h, hf, h0, h1, h2, h3, h4, h5⟩ := h
  have c := fun o => (mcell hb).1 B o h
  exact ⟨Nat.lt_of_lt_of_le h hb.size, fun o => by rw [(mcell hb).2 B o h]; exact hf o, by rw [c]; exact h0, by rw [c]; exact h1, by rw [c]; exact h2, by rw [c]; exact h3, by rw [c]; exact h4, by rw [c]; exact h5⟩
theorem R6.cells {W : World} {B : Nat} {X0 X1 X2 X3 X4 X5 : Int} (h : R6 W B X0 X1 X2 X3 X4 X5) : ∀ i, i < 6 → ∃ u, W.cell? ⟨B, i, none⟩ = some u := by
  obtain ⟨h, hf, h0, h1, h2, h3, h4, h5⟩ := h
  intro i hi
  match i, hi with
  | 0, _ => exact ⟨_, h0⟩
  | 1, _ => exact ⟨_, h1⟩
  | 2, _ => exact ⟨_, h2⟩
  | 3, _ => exact ⟨_, h3⟩
  | 4, _ => exact ⟨_, h4⟩
  | 5, _ => exact ⟨_, h5⟩
theorem R6.put0 {W : World} {B : Nat} {X0 X1 X2 X3 X4 X5 : Int} (h : R6 W B X0 X1 X2 X3 X4 X5) (v : Int) : R6 (W.setCell ⟨B, 0, none⟩ (.int .i64 v)) B v X1 X2 X3 X4 X5 := by
  obtain ⟨h, hf, h0, h1, h2, h3, h4, h5⟩ := h
  refine ⟨by simpa [World.setCell] using h, fun o => (World.frozen?_setCell _ _ _ _).trans (hf o), ?_, ?_, ?_, ?_, ?_, ?_⟩
  · exact World.cell?_setCell_same _ _ _ h0
  · rw [World.cell?_setCell_other _ _ _ _ (adr_ne _ _ _ (by omega))]; exact h1
  · rw [World.cell?_setCell_other _ _ _ _ (adr_ne _ _ _ (by omega))]; exact h2
  · rw [World.cell?_setCell_other _ _ _ _ (adr_ne _ _ _ (by omega))]; exact h3
  · rw [World.cell?_setCell_other _ _ _ _ (adr_ne _ _ _ (by omega))]; exact h4
  · rw [World.cell?_setCell_other _ _ _ _ (adr_ne _ _ _ (by omega))]; exact h5
theorem R6.put1 {W : World} {B : Nat} {X0 X1 X2 X3 X4 X5 : Int} (h : R6 W B X0 X1 X2 X3 X4 X5) (v : Int) : R6 (W.setCell ⟨B, 1, none⟩ (.int .i64 v)) B X0 v X2 X3 X4 X5 := by
  obtain ⟨h, hf, h0, h1, h2, h3, h4, h5⟩ := h
  refine ⟨by simpa [World.setCell] using h, fun o => (World.frozen?_setCell _ _ _ _).trans (hf o), ?_, ?_, ?_, ?_, ?_, ?_⟩
  · rw [World.cell?_setCell_other _ _ _ _ (adr_ne _ _ _ (by omega))]; exact h0
  · exact World.cell?_setCell_same _ _ _ h1
  · rw [World.cell?_setCell_other _ _ _ _ (adr_ne _ _ _ (by omega))]; exact h2
  · rw [World.cell?_setCell_other _ _ _ _ (adr_ne _ _ _ (by omega))]; exact h3
  · rw [World.cell?_setCell_other _ _ _ _ (adr_ne _ _ _ (by omega))]; exact h4
  · rw [World.cell?_setCell_other _ _ _ _ (adr_ne _ _ _ (by omega))]; exact h5
theorem R6.put2 {W : World} {B : Nat} {X0 X1 X2 X3 X4 X5 : Int} (h : R6 W B X0 X1 X2 X3 X4 X5) (v : Int) : R6 (W.setCell ⟨B, 2, none⟩ (.int .i64 v)) B X0 X1 v X3 X4 X5 := by
  obtain ⟨h, hf, h0, h1, h2, h3, h4, h5⟩ := h
  refine ⟨by simpa [World.setCell] using h, fun o => (World.frozen?_setCell _ _ _ _).trans (hf o), ?_, ?_, ?_, ?_, ?_, ?_⟩
  · rw [World.cell?_setCell_other _ _ _ _ (adr_ne _ _ _ (by omega))]; exact h0
  · rw [World.cell?_setCell_other _ _ _ _ (adr_ne _ _ _ (by omega))]; exact h1
  · exact World.cell?_setCell_same _ _ _ h2
  · rw [World.cell?_setCell_other _ _ _ _ (adr_ne _ _ _ (by omega))]; exact h3
  · rw [World.cell?_setCell_other _ _ _ _ (adr_ne _ _ _ (by omega))]; exact h4
  · rw [World.cell?_setCell_other _ _ _ _ (adr_ne _ _ _ (by omega))]; exact h5
theorem R6.put3 {W : World} {B : Nat} {X0 X1 X2 X3 X4 X5 : Int} (h : R6 W B X0 X1 X2 X3 X4 X5) (v : Int) : R6 (W.setCell ⟨B, 3, none⟩ (.int .i64 v)) B X0 X1 X2 v X4 X5 := by
  obtain ⟨h, hf, h0, h1, h2, h3, h4, h5⟩ := h
  refine ⟨by simpa [World.setCell] using h, fun o => (World.frozen?_setCell _ _ _ _).trans (hf o), ?_, ?_, ?_, ?_, ?_, ?_⟩
  · rw [World.cell?_setCell_other _ _ _ _ (adr_ne _ _ _ (by omega))]; exact h0
  · rw [World.cell?_setCell_other _ _ _ _ (adr_ne _ _ _ (by omega))]; exact h1
  · rw [World.cell?_setCell_other _ _ _ _ (adr_ne _ _ _ (by omega))]; exact h2
  · exact World.cell?_setCell_same _ _ _ h3
  · rw [World.cell?_setCell_other _ _ _ _ (adr_ne _ _ _ (by omega))]; exact h4
  · rw [World.cell?_setCell_other _ _ _ _ (adr_ne _ _ _ (by omega))]; exact h5
theorem R6.put4 {W : World} {B : Nat} {X0 X1 X2 X3 X4 X5 : Int} (h : R6 W B X0 X1 X2 X3 X4 X5) (v : Int) : R6 (W.setCell ⟨B, 4, none⟩ (.int .i64 v)) B X0 X1 X2 X3 v X5 := by
  obtain ⟨h, hf, h0, h1, h2, h3, h4, h5⟩ := h
  refine ⟨by simpa [World.setCell] using h, fun o => (World.frozen?_setCell _ _ _ _).trans (hf o), ?_, ?_, ?_, ?_, ?_, ?_⟩
  · rw [World.cell?_setCell_other _ _ _ _ (adr_ne _ _ _ (by omega))]; exact h0
  · rw [World.cell?_setCell_other _ _ _ _ (adr_ne _ _ _ (by omega))]; exact h1
  · rw [World.cell?_setCell_other _ _ _ _ (adr_ne _ _ _ (by omega))]; exact h2
  · rw [World.cell?_setCell_other _ _ _ _ (adr_ne _ _ _ (by omega))]; exact h3
  · exact World.cell?_setCell_same _ _ _ h4
  · rw [World.cell?_setCell_other _ _ _ _ (adr_ne _ _ _ (by omega))]; exact h5
theorem R6.put5 {W : World} {B : Nat} {X0 X1 X2 X3 X4 X5 : Int} (h : R6 W B X0 X1 X2 X3 X4 X5) (v : Int) : R6 (W.setCell ⟨B, 5, none⟩ (.int .i64 v)) B X0 X1 X2 X3 X4 v := by
  obtain ⟨h, hf, h0, h1, h2, h3, h4, h5⟩ := h
  refine ⟨by simpa [World.setCell] using h, fun o => (World.frozen?_setCell _ _ _ _).trans (hf o), ?_, ?_, ?_, ?_, ?_, ?_⟩
  · rw [World.cell?_setCell_other _ _ _ _ (adr_ne _ _ _ (by omega))]; exact h0
  · rw [World.cell?_setCell_other _ _ _ _ (adr_ne _ _ _ (by omega))]; exact h1
  · rw [World.cell?_setCell_other _ _ _ _ (adr_ne _ _ _ (by omega))]; exact h2
  · rw [World.cell?_setCell_other _ _ _ _ (adr_ne _ _ _ (by omega))]; exact h3
  · rw [World.cell?_setCell_other _ _ _ _ (adr_ne _ _ _ (by omega))]; exact h4
  · exact World.cell?_setCell_same _ _ _ h5
namespace Fx
/-- the first error of the way back, of the determinant D and its error F -/
def invE (D F m0 m1 m2 m3 m4 m5 : Int) : Int :=
  kE F (kE (divE m3 D) (kE (subE 0 m1) (kE (divE (subV 0 m1) D) (kE (subE 0 m2) (kE (divE (subV 0 m2) D) (kE (divE m0 D) (kE (crsE m2 m5 m3 m4) (kE (divE (crsV m2 m5 m3 m4) D) (kE (crsE m1 m4 m0 m5) (divE (crsV m1 m4 m0 m5) D))))))))))
theorem crsE_fits {a y c x : Int} (h : crsE a y c x = 0) : fits y = true := by
  unfold crsE at h
  have h1 := (kE_eq_zero.1 h).1
  unfold mulE at h1
  by_cases hf : (fits a && fits y) = true
  · simp at hf; exact hf.2
  · rw [if_neg hf] at h1; omega
theorem divE_zero {a : Int} (h : fits a = true) : divE a 0 = 18 := by simp [divE, h, fits_zero]
end Fx
def InvE (m0 m1 m2 m3 m4 m5 : Int) : World → Ending → World → Prop :=
  MatE (divV m3 (crsV m0 m3 m1 m2)) (divV (subV 0 m1) (crsV m0 m3 m1 m2)) (divV (subV 0 m2) (crsV m0 m3 m1 m2)) (divV m0 (crsV m0 m3 m1 m2)) (divV (crsV m2 m5 m3 m4) (crsV m0 m3 m1 m2)) (divV (crsV m1 m4 m0 m5) (crsV m0 m3 m1 m2)) (invE (crsV m0 m3 m1 m2) (crsE m0 m3 m1 m2) m0 m1 m2 m3 m4 m5)
end Go.Proofs.YtgbpldfcahajeaaDoor
