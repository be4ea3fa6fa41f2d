/-
  Points in blocks of their own: what is kept, what is laid, what is put.
-/
import Derived.Test.YtlgjlnbdfpncmaaMatLeadsW
namespace Go.Proofs.Ytlgjlnbdfpncmaa
open Go.RowKit
open Fx
/-- block B of W holds these two numbers -/
def HasTwo (W : World) (B : Nat) (X Y : Int) : Prop := B < W.heap.size ∧ W.cell? ⟨B, 0, none⟩ = some (.int .i64 X) ∧ W.cell? ⟨B, 1, none⟩ = some (.int .i64 Y)
theorem HasTwo.below {W w' : World} {B : Nat} {X Y : Int} (h : HasTwo W B X Y) (hb : Below W.heap.size W w') : HasTwo w' B X Y := by
  obtain ⟨h, h0, h1⟩ := h
  have c := fun o => (mcell hb).1 B o h
  exact ⟨Nat.lt_of_lt_of_le h hb.size, by rw [c]; exact h0, by rw [c]; exact h1⟩
theorem hasTwo_new (W : World) (X Y : Int) (T : TypeId) : HasTwo (W.alloc (.cells #[.int .i64 X, .int .i64 Y] T)) W.heap.size X Y := by
  refine ⟨by simp, ?_, ?_⟩ <;> simp [go_sem]
theorem HasTwo.alloc {W : World} {B : Nat} {X Y : Int} (h : HasTwo W B X Y) (O : Obj) : HasTwo (W.alloc O) B X Y := h.below ((Below.refl _ _).alloc (Nat.le_refl _) _)
/-- a point in a block of its own, and an error, behind world W -/
def PtAt (W : World) (X Y E : Int) (s t : Value) (wx : World) : Prop := ∃ B, s = .pointer (some ⟨B, 0, none⟩) ∧ t = .int .i64 E ∧ HasTwo wx B X Y ∧ Below W.heap.size W wx
theorem tI_1 {W wI : World} (h : Below W.drew.heap.size W.drew wI) : Below W.heap.size W wI := ⟨h.os, h.tape, h.output, h.size, h.block⟩
theorem tI_2 {W wI : World} {O : Obj} (h : Below (W.alloc O).drew.heap.size (W.alloc O).drew wI) : Below W.heap.size W wI := mthen ((Below.refl _ _).alloc (Nat.le_refl _) O) (tI_1 h)
theorem two_A {W wI wC : World} (h : Below (W.alloc (Obj.cells #[.int .i64 0, .int .i64 0] 24)).drew.heap.size (W.alloc (Obj.cells #[.int .i64 0, .int .i64 0] 24)).drew wI) (h2 : Below wI.heap.size wI wC) : (wC.cell? ⟨W.heap.size, 0, none⟩ = some (.int .i64 0) ∧ wC.cell? ⟨W.heap.size, 1, none⟩ = some (.int .i64 0)) ∧ ∀ o, wC.frozen? ⟨W.heap.size, o, none⟩ = false := by
  have hb : Below (W.alloc (Obj.cells #[.int .i64 0, .int .i64 0] 24)).heap.size (W.alloc (Obj.cells #[.int .i64 0, .int .i64 0] 24)) wC := mthen (tI_1 h) h2
  refine ⟨(((hasTwo_new W 0 0 24).below hb)).2, fun o => ?_⟩
  rw [(mcell hb).2 _ _ (by simp)]; simp [go_sem]
theorem two_B {wI wC : World} (h : Below (wI.alloc (Obj.cells #[.int .i64 0, .int .i64 0] 24)).heap.size (wI.alloc (Obj.cells #[.int .i64 0, .int .i64 0] 24)) wC) : (wC.cell? ⟨wI.heap.size, 0, none⟩ = some (.int .i64 0) ∧ wC.cell? ⟨wI.heap.size, 1, none⟩ = some (.int .i64 0)) ∧ ∀ o, wC.frozen? ⟨wI.heap.size, o, none⟩ = false := by
  refine ⟨(((hasTwo_new wI 0 0 24).below h)).2, fun o => ?_⟩
  rw [(mcell h).2 _ _ (by simp)]; simp [go_sem]
theorem telim_A {P : Prop} {W wI wC : World} (h : Below (W.alloc (Obj.cells #[.int .i64 0, .int .i64 0] 24)).drew.heap.size (W.alloc (Obj.cells #[.int .i64 0, .int .i64 0] 24)).drew wI) (h2 : Below wI.heap.size wI wC) (k : wC.cell? ⟨W.heap.size, 0, none⟩ = some (.int .i64 0) → wC.cell? ⟨W.heap.size, 1, none⟩ = some (.int .i64 0) → (∀ o, wC.frozen? ⟨W.heap.size, o, none⟩ = false) → P) : P := by
  obtain ⟨⟨k0, k1⟩, kf⟩ := two_A h h2
  exact k k0 k1 kf
theorem telim_B {P : Prop} {wI wC : World} (h : Below (wI.alloc (Obj.cells #[.int .i64 0, .int .i64 0] 24)).heap.size (wI.alloc (Obj.cells #[.int .i64 0, .int .i64 0] 24)) wC) (k : wC.cell? ⟨wI.heap.size, 0, none⟩ = some (.int .i64 0) → wC.cell? ⟨wI.heap.size, 1, none⟩ = some (.int .i64 0) → (∀ o, wC.frozen? ⟨wI.heap.size, o, none⟩ = false) → P) : P := by
  obtain ⟨⟨k0, k1⟩, kf⟩ := two_B h
  exact k k0 k1 kf
theorem tarm_1 {P : Prop} {W wI : World} {B : Nat} {X Y : Int} (h : Below W.drew.heap.size W.drew wI) (hA : HasTwo W B X Y) (k : Below W.heap.size W wI → wI.cell? ⟨B, 0, none⟩ = some (.int .i64 X) → wI.cell? ⟨B, 1, none⟩ = some (.int .i64 Y) → P) : P := by
  obtain ⟨_, k0, k1⟩ := hA.below (tI_1 h)
  exact k (tI_1 h) k0 k1
theorem tarm_2 {P : Prop} {W wI : World} {O : Obj} {B : Nat} {X Y : Int} (h : Below (W.alloc O).drew.heap.size (W.alloc O).drew wI) (hA : HasTwo W B X Y) (k : Below W.heap.size W wI → wI.cell? ⟨B, 0, none⟩ = some (.int .i64 X) → wI.cell? ⟨B, 1, none⟩ = some (.int .i64 Y) → P) : P := by
  obtain ⟨_, k0, k1⟩ := hA.below (tI_2 h)
  exact k (tI_2 h) k0 k1
theorem tarm_3 {P : Prop} {W wI wC : World} {B : Nat} {X Y : Int} (hJ : Below W.heap.size W wI) (h : Below wI.heap.size wI wC) (hA : HasTwo W B X Y) (k : wC.cell? ⟨B, 0, none⟩ = some (.int .i64 X) → wC.cell? ⟨B, 1, none⟩ = some (.int .i64 Y) → P) : P := by
  obtain ⟨_, k0, k1⟩ := hA.below (mthen hJ h)
  exact k k0 k1
theorem tarm_4 {P : Prop} {W wI wC : World} {O : Obj} {B : Nat} {X Y : Int} (hJ : Below W.heap.size W wI) (h : Below (wI.alloc O).heap.size (wI.alloc O) wC) (hA : HasTwo W B X Y) (k : B ≠ wI.heap.size → wC.cell? ⟨B, 0, none⟩ = some (.int .i64 X) → wC.cell? ⟨B, 1, none⟩ = some (.int .i64 Y) → P) : P := by
  have hne : B ≠ wI.heap.size := by have := hA.1; have := hJ.size; omega
  obtain ⟨_, k0, k1⟩ := hA.below (nextB hJ h)
  exact k hne k0 k1
theorem two_keep {wC : World} {B B' : Nat} {X Y : Int} {u v : Value} (hne : B ≠ B') (h : wC.cell? ⟨B, 0, none⟩ = some (.int .i64 X) ∧ wC.cell? ⟨B, 1, none⟩ = some (.int .i64 Y)) : ((wC.setCell ⟨B', 0, none⟩ u).setCell ⟨B', 1, none⟩ v).cell? ⟨B, 0, none⟩ = some (.int .i64 X) ∧ ((wC.setCell ⟨B', 0, none⟩ u).setCell ⟨B', 1, none⟩ v).cell? ⟨B, 1, none⟩ = some (.int .i64 Y) := by
  have c : ∀ o, ((wC.setCell ⟨B', 0, none⟩ u).setCell ⟨B', 1, none⟩ v).cell? ⟨B, o, none⟩ = wC.cell? ⟨B, o, none⟩ := by
    intro o
    rw [World.cell?_setCell_other _ _ _ _ (adr_ne2 _ _ _ _ (Ne.symm hne)), World.cell?_setCell_other _ _ _ _ (adr_ne2 _ _ _ _ (Ne.symm hne))]
  rw [c, c]; exact h
theorem two_put {W wC : World} {B : Nat} {X Y E : Int} (hB : W.heap.size ≤ B) (hK : Below W.heap.size W wC) (hz : wC.cell? ⟨B, 0, none⟩ = some (.int .i64 0) ∧ wC.cell? ⟨B, 1, none⟩ = some (.int .i64 0)) : PtAt W X Y E (.pointer (some ⟨B, 0, none⟩)) (.int .i64 E) ((wC.setCell ⟨B, 0, none⟩ (.int .i64 X)).setCell ⟨B, 1, none⟩ (.int .i64 Y)) := by
  have hlt : B < wC.heap.size := World.block_lt_of_cell? wC _ hz.1
  exact ⟨B, rfl, rfl, ⟨by simpa [World.setCell] using hlt, pt_put hz.1 hz.2 _ _⟩, (hK.setCell hB _).setCell hB _⟩
theorem pt_A {W wI wC : World} {X Y E : Int} (h : Below (W.alloc (Obj.cells #[.int .i64 0, .int .i64 0] 24)).drew.heap.size (W.alloc (Obj.cells #[.int .i64 0, .int .i64 0] 24)).drew wI) (h2 : Below wI.heap.size wI wC) : PtAt W X Y E (.pointer (some ⟨W.heap.size, 0, none⟩)) (.int .i64 E) ((wC.setCell ⟨W.heap.size, 0, none⟩ (.int .i64 X)).setCell ⟨W.heap.size, 1, none⟩ (.int .i64 Y)) := two_put (Nat.le_refl _) (mthen (tI_2 h) h2) (two_A h h2).1
theorem pt_B {W wI wC : World} {X Y E : Int} (hJ : Below W.heap.size W wI) (h : Below (wI.alloc (Obj.cells #[.int .i64 0, .int .i64 0] 24)).heap.size (wI.alloc (Obj.cells #[.int .i64 0, .int .i64 0] 24)) wC) : PtAt W X Y E (.pointer (some ⟨wI.heap.size, 0, none⟩)) (.int .i64 E) ((wC.setCell ⟨wI.heap.size, 0, none⟩ (.int .i64 X)).setCell ⟨wI.heap.size, 1, none⟩ (.int .i64 Y)) := two_put hJ.size (nextB hJ h) (two_B h).1
theorem pt_C {W wI wC : World} {X Y E : Int} (hJ : Below W.heap.size W wI) (h : Below wI.heap.size wI wC) : PtAt W X Y E (.pointer (some ⟨wC.heap.size, 0, none⟩)) (.int .i64 E) (wC.alloc (.cells #[.int .i64 X, .int .i64 Y] 24)) :=
  ⟨wC.heap.size, rfl, rfl, hasTwo_new _ _ _ _, (mthen hJ h).alloc (mthen hJ h).size _⟩
end Go.Proofs.Ytlgjlnbdfpncmaa
