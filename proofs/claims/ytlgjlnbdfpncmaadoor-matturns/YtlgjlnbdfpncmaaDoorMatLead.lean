/-
  The contracts of delta and apply, and of what is worked out, or the first error.
-/
import Derived.Test.YtlgjlnbdfpncmaaDoorMatWork
import Derived.RegionTactic
import Derived.ChangeAlike
namespace Go.Proofs.YtlgjlnbdfpncmaaDoor
open Go.RowKit
open Fx
def KpP (b : Nat) (X Y E : Int) (w : World) (e : Ending) (w' : World) : Prop :=
  e = .returned (.agg #[.int .i64 X, .int .i64 Y]) ∧ But b w w' ∧ w'.cell? ⟨b, 0, none⟩ = some (.int .i64 E) ∧ w'.frozen? ⟨b, 0, none⟩ = false
theorem adr_ne (B i j : Nat) (h : i ≠ j) : (⟨B, i, none⟩ : Addr) ≠ ⟨B, j, none⟩ := fun e => h (Addr.mk.inj e).2.1
theorem adr_ne2 (B C i j : Nat) (h : B ≠ C) : (⟨B, i, none⟩ : Addr) ≠ ⟨C, j, none⟩ := fun e => h (Addr.mk.inj e).1
theorem pt_put {B : Nat} {W : World} {u0 u1 : Value} (h0 : W.cell? ⟨B, 0, none⟩ = some u0) (h1 : W.cell? ⟨B, 1, none⟩ = some u1) (v0 v1 : Value) :
    ((W.setCell ⟨B, 0, none⟩ v0).setCell ⟨B, 1, none⟩ v1).cell? ⟨B, 0, none⟩ = some v0 ∧ ((W.setCell ⟨B, 0, none⟩ v0).setCell ⟨B, 1, none⟩ v1).cell? ⟨B, 1, none⟩ = some v1 := by
  refine ⟨?_, ?_⟩
  · rw [World.cell?_setCell_other _ _ _ _ (adr_ne _ _ _ (by omega)), World.cell?_setCell_same _ _ _ h0]
  · rw [World.cell?_setCell_same _ _ _ (u := u1)]
    rw [World.cell?_setCell_other _ _ _ _ (adr_ne _ _ _ (by omega))]; exact h1
theorem wApply_at (b : Nat) (m0 m1 m2 m3 m4 m5 x y E : Int) (w : World) (hc : w.cell? ⟨b, 0, none⟩ = some (.int .i64 E)) (hf : w.frozen? ⟨b, 0, none⟩ = false) :
    Calls Tryd.prog 18 #[.pointer (some ⟨b, 0, none⟩), .agg #[.int .i64 m0, .int .i64 m1, .int .i64 m2, .int .i64 m3, .int .i64 m4, .int .i64 m5], .agg #[.int .i64 x, .int .i64 y]] w
      (KpP b (lin1V m0 x m2 y m4) (lin1V m1 x m3 y m5) (kE E (aplE m0 m1 m2 m3 m4 m5 x y)) w) := by
  have HK := Lib.hid (fun (g : Nat) (a x c y t E : Int) (w : World) => wLine_one b g a x c y t E w)
  have HE : kE (kE E (lin1E m0 x m2 y m4)) (lin1E m1 x m3 y m5) = kE E (aplE m0 m1 m2 m3 m4 m5 x y) := by unfold aplE; rw [kE_assoc]
  rw [← HE]
  clear HE
  have hlt := World.block_lt_of_cell? w _ hc
  simp only [] at hlt
  unfold Kp at HK
  unfold KpP
  go_enter Tryd.func18, Tryd.ntmps18
  go_wp2_with fail
  refine (HK.out (w.heap.size + 1 + 1 + 1) _ _ _ _ m4 E _ (by omega) (by rw [World.cell?_alloc_lt _ _ _ (by simp <;> omega), World.cell?_alloc_lt _ _ _ (by simp <;> omega), World.cell?_alloc_lt _ _ _ (by simp <;> omega), World.cell?_alloc_lt _ _ _ hlt]; exact hc) (by simp only [frozen?_alloc_cells]; exact hf) (by simp [go_sem])).mono ?_; rintro e w1 ⟨rfl, hb1, hc1, hf1⟩
  have r0 := hb1.cell w.heap.size (by simp <;> omega) (by omega)
  have r1 := hb1.cell (w.heap.size + 1) (by simp <;> omega) (by omega)
  have hl1 := World.block_lt_of_cell? w1 _ hc1
  have hs1 := hb1.size
  simp at hs1 hl1
  have HB1 := Lib.hid hb1
  have HS1 := Lib.hid hs1
  have HL1 := Lib.hid hl1
  clear hb1 hs1 hl1
  go_wp2_with fail
  refine (HK.out w1.heap.size _ _ _ _ m5 _ _ (by have := HL1.out; omega) (by rw [World.cell?_alloc_lt _ _ _ HL1.out]; exact hc1) (by simp only [frozen?_alloc_cells]; exact hf1) (by simp [go_sem])).mono ?_; rintro e w2 ⟨rfl, hb2, hc2, hf2⟩
  have hb := (HB1.out.alloc _).trans hb2
  have t0 : w2.cell? ⟨w.heap.size + 1 + 1, 0, none⟩ = some (.int .i64 0) := (hb.cell _ (by simp) (by omega) 0).trans (by simp [go_sem])
  have t1 : w2.cell? ⟨w.heap.size + 1 + 1, 1, none⟩ = some (.int .i64 0) := (hb.cell _ (by simp) (by omega) 1).trans (by simp [go_sem])
  have tf : ∀ o, w2.frozen? ⟨w.heap.size + 1 + 1, o, none⟩ = false := fun o => (hb.frozen _ (by simp) (by omega) o).trans (by simp [go_sem])
  have HB := Lib.hid hb
  clear hb2 r0 r1 HB1 hb HS1 HL1
  go_wp2_with fail
  obtain ⟨p0, p1⟩ := pt_put t0 t1 (.int .i64 (lin1V m0 x m2 y m4)) (.int .i64 (lin1V m1 x m3 y m5))
  refine bodyPost_ret (v := .agg #[.int .i64 (lin1V m0 x m2 y m4), .int .i64 (lin1V m1 x m3 y m5)]) (by simp [results, Tryd.results18, go_sem, p0, p1]) rfl ⟨rfl, ?_, ?_, ?_⟩
  · exact ((((((But.refl _ _).alloc _).alloc _).alloc _).alloc _).trans HB.out).own (by simp <;> omega) _ |>.own (by simp <;> omega) _
  · rw [World.cell?_setCell_other _ _ _ _ (adr_ne2 _ _ _ _ (by omega)), World.cell?_setCell_other _ _ _ _ (adr_ne2 _ _ _ _ (by omega))]; exact hc2
  · simpa using hf2
/-- a point and an error, as they are answered -/
def PtE (X Y E : Int) (w : World) (e : Ending) (w' : World) : Prop :=
  e = .returned (.tuple #[.agg #[.int .i64 (sel E X), .int .i64 (sel E Y)], .int .i64 E]) ∧ Below w.heap.size w w'
theorem outP_at (X Y E : Int) (w : World) : Calls Tryd.prog 19 #[.agg #[.int .i64 E], .agg #[.int .i64 X, .int .i64 Y]] w (PtE X Y E w) := by
  by_cases h : E = 0
  · subst h
    unfold PtE sel
    simp only [if_true]
    go_enter Tryd.func19, Tryd.ntmps19
    go_wp2_with fail
    refine bodyPost_ret (v := .tuple #[.agg #[.int .i64 X, .int .i64 Y], .int .i64 0]) (by simp [results, Tryd.results19, go_sem]) rfl ⟨rfl, ?_⟩
    exact (((Below.refl _ _).alloc (by simp) _).alloc (by simp <;> omega) _).alloc (by simp <;> omega) _
  · have hE : (E != 0) = true := by simp [h]
    unfold PtE sel
    simp only [if_neg h]
    clear h
    go_enter Tryd.func19, Tryd.ntmps19
    go_wp2_with fail
    go_region
    all_goals go_wp2_with fail
    all_goals refine bodyPost_ret (v := .tuple #[.agg #[.int .i64 0, .int .i64 0], .int .i64 E]) (by simp [results, Tryd.results19, go_sem]) rfl ⟨rfl, ?_⟩
    all_goals exact ((((Below.refl _ _).alloc (by simp) _).alloc (by simp <;> omega) _).alloc (by simp <;> omega) _).alloc (by simp <;> omega) _ |>.drew
end Go.Proofs.YtlgjlnbdfpncmaaDoor
