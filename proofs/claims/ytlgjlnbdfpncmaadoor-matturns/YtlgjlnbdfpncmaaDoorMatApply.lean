/-
  The contracts of Apply and Delta (mat and ref01).
-/
import Derived.Test.YtlgjlnbdfpncmaaDoorMatLead
namespace Go.Proofs.YtlgjlnbdfpncmaaDoor
open Go.RowKit
open Fx
theorem mthen {a b c : World} (h : Below a.heap.size a b) (k : Below b.heap.size b c) : Below a.heap.size a c := h.trans (k.mono h.size)
theorem mcell {W w1 : World} (hb : Below W.heap.size W w1) : (∀ b o, b < W.heap.size → w1.cell? ⟨b, o, none⟩ = W.cell? ⟨b, o, none⟩) ∧ (∀ b o, b < W.heap.size → w1.frozen? ⟨b, o, none⟩ = W.frozen? ⟨b, o, none⟩) :=
  ⟨fun b o h => hb.cell (p := ⟨b, o, none⟩) h, fun b o h => hb.frozen (p := ⟨b, o, none⟩) h⟩
/-- a cell that was there when a block was laid behind it and something was called -/
theorem later_cell {b k o : Nat} {W w1 w3 : World} {O : Obj} {v : Value} (h : W.cell? ⟨k, o, none⟩ = some v) (hb : But b W w1) (hk : k ≠ b) (h3 : Below (w1.alloc O).heap.size (w1.alloc O) w3) : w3.cell? ⟨k, o, none⟩ = some v := by
  have hlt : k < W.heap.size := World.block_lt_of_cell? W _ h
  have hl1 : k < w1.heap.size := Nat.lt_of_lt_of_le hlt hb.size
  rw [(mcell h3).1 _ _ (by simp <;> omega), World.cell?_alloc_lt _ _ _ hl1, hb.cell k hlt hk o]; exact h
theorem later_frozen {b k : Nat} {W w1 w3 : World} {cs : Array Value} {T : TypeId} (hlt : k < W.heap.size) (h : ∀ o, W.frozen? ⟨k, o, none⟩ = false) (hb : But b W w1) (hk : k ≠ b) (h3 : Below (w1.alloc (.cells cs T)).heap.size (w1.alloc (.cells cs T)) w3) : ∀ o, w3.frozen? ⟨k, o, none⟩ = false := by
  intro o
  have hl1 : k < w1.heap.size := Nat.lt_of_lt_of_le hlt hb.size
  rw [(mcell h3).2 _ _ (by simp <;> omega), frozen?_alloc_cells, hb.frozen k hlt hk o]; exact h o
theorem matApply_at (m0 m1 m2 m3 m4 m5 x y : Int) (w : World) :
    Calls Tryd.prog 13 #[.agg #[.int .i64 m0, .int .i64 m1, .int .i64 m2, .int .i64 m3, .int .i64 m4, .int .i64 m5], .agg #[.int .i64 x, .int .i64 y]] w (PtE (lin1V m0 x m2 y m4) (lin1V m1 x m3 y m5) (aplE m0 m1 m2 m3 m4 m5 x y) w) := by
  have hK := fun (b : Nat) (w : World) => wApply_at b m0 m1 m2 m3 m4 m5 x y 0 w
  have hO := fun (w : World) => outP_at (lin1V m0 x m2 y m4) (lin1V m1 x m3 y m5) (aplE m0 m1 m2 m3 m4 m5 x y) w
  simp only [zero_kE] at hK
  generalize lin1V m0 x m2 y m4 = X at hK hO ⊢
  generalize lin1V m1 x m3 y m5 = Y at hK hO ⊢
  generalize aplE m0 m1 m2 m3 m4 m5 x y = E at hK hO ⊢
  unfold KpP at hK
  unfold PtE at hO ⊢
  have HK := Lib.hid hK
  have HO := Lib.hid hO
  clear hK hO
  go_enter Tryd.func13, Tryd.ntmps13
  go_wp2_with fail
  refine (HK.out (w.heap.size + 1 + 1 + 1) _ (by simp [go_sem]) (by simp [go_sem])).mono ?_; rintro e w1 ⟨rfl, hb1, hc1, hf1⟩
  have hl1 := World.block_lt_of_cell? w1 _ hc1
  simp only [] at hl1
  have HB1 := Lib.hid hb1
  clear hb1
  go_wp2_with fail
  refine (HO.out _).mono ?_; rintro e w3 ⟨rfl, hb3⟩
  have t0 : w3.cell? ⟨w.heap.size + 1 + 1, 0, none⟩ = some (.int .i64 0) := later_cell (by simp [go_sem]) HB1.out (by omega) hb3
  have t1 : w3.cell? ⟨w.heap.size + 1 + 1, 1, none⟩ = some (.int .i64 0) := later_cell (by simp [go_sem]) HB1.out (by omega) hb3
  have tf : ∀ o, w3.frozen? ⟨w.heap.size + 1 + 1, o, none⟩ = false := later_frozen (by simp) (by simp [go_sem]) HB1.out (by omega) hb3
  have hB : Below w.heap.size w w3 := ((HB1.out.below (((((Below.refl _ w).alloc (by simp) _).alloc (by simp <;> omega) _).alloc (by simp <;> omega) _).alloc (by simp <;> omega) _) (by omega) (by simp <;> omega)).alloc (by omega) _).trans (hb3.mono (by simp <;> omega))
  have HB := Lib.hid hB
  clear hb3 hB HB1 hc1 hf1
  go_wp2_with fail
  obtain ⟨p0, p1⟩ := pt_put t0 t1 (.int .i64 (sel E X)) (.int .i64 (sel E Y))
  refine bodyPost_ret (v := .tuple #[.agg #[.int .i64 (sel E X), .int .i64 (sel E Y)], .int .i64 E]) (by simp [results, Tryd.results13, go_sem, p0, p1]) rfl ⟨rfl, ?_⟩
  exact (HB.out.setCell (by simp <;> omega) _).setCell (by simp <;> omega) _
end Go.Proofs.YtlgjlnbdfpncmaaDoor
