/-
  The walk of the law MatLeads; the small matrices; what a program that does nothing does not answer.
-/
import Derived.Test.YtlgjlnbdfpncmaaDoorMatRef
namespace Go.Proofs.YtlgjlnbdfpncmaaDoor
open Go.RowKit
open Fx
def Mat6 (m0 m1 m2 m3 m4 m5 : Int) (w : World) (e : Ending) (w' : World) : Prop := e = .returned (.agg #[.int .i64 m0, .int .i64 m1, .int .i64 m2, .int .i64 m3, .int .i64 m4, .int .i64 m5]) ∧ Below w.heap.size w w'
/-- behind a block laid and a call: an older cell, and the new block's -/
theorem keepL {w1 w2 : World} {O : Obj} (h : Below (w1.alloc O).heap.size (w1.alloc O) w2) (k : Nat) (hk : k < w1.heap.size) : ∀ o, w2.cell? ⟨k, o, none⟩ = w1.cell? ⟨k, o, none⟩ := by
  intro o; rw [(mcell h).1 _ _ (by simp <;> omega), World.cell?_alloc_lt _ _ _ hk]
theorem newL {w1 w2 : World} {O : Obj} (h : Below (w1.alloc O).heap.size (w1.alloc O) w2) : ∀ o, w2.cell? ⟨w1.heap.size, o, none⟩ = (w1.alloc O).cell? ⟨w1.heap.size, o, none⟩ := by
  intro o; rw [(mcell h).1 _ _ (by simp <;> omega)]
theorem nextB {w w1 w2 : World} {O : Obj} (hw : Below w.heap.size w w1) (h : Below (w1.alloc O).heap.size (w1.alloc O) w2) : Below w.heap.size w w2 := mthen (hw.alloc hw.size O) h
theorem sizeL {w1 w2 : World} {O : Obj} (h : Below (w1.alloc O).heap.size (w1.alloc O) w2) : w1.heap.size < w2.heap.size := by have := h.size; simp at this; omega
theorem stretch_at (x y : Int) (w : World) : Calls Tryd.prog 14 #[.int .i64 x, .int .i64 y] w (Mat6 x 0 0 y 0 0 w) := by
  unfold Mat6
  go_enter Tryd.func14, Tryd.ntmps14
  go_wp2_with fail
  refine bodyPost_ret (v := .agg #[.int .i64 x, .int .i64 0, .int .i64 0, .int .i64 y, .int .i64 0, .int .i64 0]) (by simp [results, Tryd.results14, go_sem]) rfl ⟨rfl, ?_⟩
  exact (Below.refl _ _).alloc (Nat.le_refl _) _
theorem answers_at (w : World) : Calls Tryd.prog 6 #[] w fun e w' => e = .returned (.bool true) ∧ Below w.heap.size w w' := by
  have h1 := fun w => stretch_at 131072 196608 w
  have h2 := fun w => matApply_at 131072 0 0 196608 0 0 65536 65536 w
  have e1 : lin1V 131072 65536 0 65536 0 = 131072 := by decide +kernel
  have e2 : lin1V 0 65536 196608 65536 0 = 196608 := by decide +kernel
  have e3 : aplE 131072 0 0 196608 0 0 65536 65536 = 0 := by decide +kernel
  rw [e1, e2, e3] at h2
  unfold Mat6 at h1
  unfold PtE sel at h2
  simp only [if_true] at h2
  have H1 := Lib.hid h1
  have H2 := Lib.hid h2
  clear h1 h2 e1 e2 e3
  go_enter Tryd.func6, Tryd.ntmps6
  go_wp2_with fail
  refine (H1.out _).mono ?_; rintro e w1 ⟨rfl, hb1⟩
  go_wp2_with fail
  refine (H2.out _).mono ?_; rintro e w2 ⟨rfl, hb2⟩
  have HB := Lib.hid (mthen hb1 hb2)
  clear hb1 hb2
  go_wp2_with fail
  go_ret
  exact ⟨rfl, HB.out.alloc HB.out.size _⟩
end Go.Proofs.YtlgjlnbdfpncmaaDoor
