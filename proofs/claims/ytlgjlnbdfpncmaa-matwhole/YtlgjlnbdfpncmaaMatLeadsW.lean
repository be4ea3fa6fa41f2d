/-
  The walk of the law MatLeads; the small matrices; what a program that does nothing does not answer.
-/
import Derived.Test.YtlgjlnbdfpncmaaMatRef
namespace Go.Proofs.Ytlgjlnbdfpncmaa
open Go.RowKit
open Fx
def Mat6 (m0 m1 m2 m3 m4 m5 : Int) (w : World) (e : Ending) (w' : World) : Prop := e = .returned (.agg #[.int .i64 m0, .int .i64 m1, .int .i64 m2, .int .i64 m3, .int .i64 m4, .int .i64 m5]) ∧ Below w.heap.size w w'
/-- behind a block laid and a call: an older cell, and the new block's -/
theorem keepL {w1 w2 : World} {O : Obj} (h : Below (w1.alloc O).heap.size (w1.alloc O) w2) (k : Nat) (hk : k < w1.heap.size) : ∀ o, w2.cell? ⟨k, o, none⟩ = w1.cell? ⟨k, o, none⟩ := by
  intro o; rw [(mcell h).1 _ _ (by simp <;> omega), World.cell?_alloc_lt _ _ _ hk]
theorem newL {w1 w2 : World} {O : Obj} (h : Below (w1.alloc O).heap.size (w1.alloc O) w2) : ∀ o, w2.cell? ⟨w1.heap.size, o, none⟩ = (w1.alloc O).cell? ⟨w1.heap.size, o, none⟩ := by
  intro o; rw [(mcell h).1 _ _ (by simp <;> omega)]
theorem nextB {w w1 w2 : World} {O : Obj} (hw : Below w.heap.size w w1) (h : Below (w1.alloc O).heap.size (w1.alloc O) w2) : Below w.heap.size w w2 := mthen (hw.alloc hw.size O) h
theorem sizeL {w1 w2 : World} {O : Obj} (h : Below (w1.alloc O).heap.size (w1.alloc O) w2) : w1.heap.size < w2.heap.size := by have := h.size; simp at this; omega
theorem stretch_at (x y : Int) (w : World) : Calls Try.prog 22 #[.int .i64 x, .int .i64 y] w (Mat6 x 0 0 y 0 0 w) := by
  unfold Mat6
  go_enter Try.func22, Try.ntmps22
  go_wp2_with fail
  refine bodyPost_ret (v := .agg #[.int .i64 x, .int .i64 0, .int .i64 0, .int .i64 y, .int .i64 0, .int .i64 0]) (by simp [results, Try.results22, go_sem]) rfl ⟨rfl, ?_⟩
  exact (Below.refl _ _).alloc (Nat.le_refl _) _
theorem translate_at (x y : Int) (w : World) : Calls Try.prog 21 #[.int .i64 x, .int .i64 y] w (Mat6 65536 0 0 65536 x y w) := by
  unfold Mat6
  go_enter Try.func21, Try.ntmps21
  go_wp2_with fail
  refine bodyPost_ret (v := .agg #[.int .i64 65536, .int .i64 0, .int .i64 0, .int .i64 65536, .int .i64 x, .int .i64 y]) (by simp [results, Try.results21, go_sem]) rfl ⟨rfl, ?_⟩
  exact (Below.refl _ _).alloc (Nat.le_refl _) _
theorem answers_at (w : World) : Calls Try.prog 12 #[] w fun e w' => e = .returned (.bool true) ∧ Below w.heap.size w w' := by
  have h1 := fun w => stretch_at 131072 196608 w
  have h2 := fun w => matApply_at 131072 0 0 196608 0 0 65536 65536 w
  have e1 : lin1V 131072 65536 0 65536 0 = 131072 := by decide +kernel
  have e2 : lin1V 0 65536 196608 65536 0 = 196608 := by decide +kernel
  have e3 : aplE 131072 0 0 196608 0 0 65536 65536 = 0 := by decide +kernel
  rw [e1, e2, e3] at h2
  unfold Mat6 at h1
  unfold PtE sel at h2
  simp only [if_true] at h2
  have H1 := Lib.hid h1
  have H2 := Lib.hid h2
  clear h1 h2 e1 e2 e3
  go_enter Try.func12, Try.ntmps12
  go_wp2_with fail
  refine (H1.out _).mono ?_; rintro e w1 ⟨rfl, hb1⟩
  go_wp2_with fail
  refine (H2.out _).mono ?_; rintro e w2 ⟨rfl, hb2⟩
  have HB := Lib.hid (mthen hb1 hb2)
  clear hb1 hb2
  go_wp2_with fail
  go_ret
  exact ⟨rfl, HB.out.alloc HB.out.size _⟩
theorem lawMatLeads (m0 m1 m2 m3 m4 m5 x y : Int) (w : World) :
    Calls Try.prog 3 #[.agg #[.int .i64 m0, .int .i64 m1, .int .i64 m2, .int .i64 m3, .int .i64 m4, .int .i64 m5], .agg #[.int .i64 x, .int .i64 y]] w fun e w' => e = .returned (.bool true) ∧ Below w.heap.size w w' := by
  have h1 := fun w => matApply_at m0 m1 m2 m3 m4 m5 x y w
  have h2 := fun w => refApply_at m0 m1 m2 m3 m4 m5 x y w
  have h3 := fun w => matDelta_at m0 m1 m2 m3 m4 m5 x y w
  have h4 := fun w => refDelta_at m0 m1 m2 m3 m4 m5 x y w
  unfold PtE at h1 h2 h3 h4
  generalize sel (aplE m0 m1 m2 m3 m4 m5 x y) (lin1V m0 x m2 y m4) = X at h1 h2
  generalize sel (aplE m0 m1 m2 m3 m4 m5 x y) (lin1V m1 x m3 y m5) = Y at h1 h2
  generalize aplE m0 m1 m2 m3 m4 m5 x y = E at h1 h2
  generalize sel (dltE m0 m1 m2 m3 x y) (linV m0 x m2 y) = P at h3 h4
  generalize sel (dltE m0 m1 m2 m3 x y) (linV m1 x m3 y) = Q at h3 h4
  generalize dltE m0 m1 m2 m3 x y = F at h3 h4
  have H1 := Lib.hid h1
  have H2 := Lib.hid h2
  have H3 := Lib.hid h3
  have H4 := Lib.hid h4
  clear h1 h2 h3 h4
  go_enter Try.func3, Try.ntmps3
  go_wp2_with fail
  refine (H1.out _).mono ?_; rintro e w1 ⟨rfl, hb1⟩
  have a0 : ∀ o, _ := fun o => (mcell hb1).1 w.heap.size o (by simp <;> omega)
  have a1 : ∀ o, _ := fun o => (mcell hb1).1 (w.heap.size + 1) o (by simp <;> omega)
  have hs1 := hb1.size
  simp at hs1
  have s0 : w.heap.size < w1.heap.size := by omega
  have s1 : w.heap.size + 1 < w1.heap.size := by omega
  have HB1 := Lib.hid (mthen (((Below.refl _ w).alloc (by simp) _).alloc (by simp <;> omega) _) hb1)
  clear hb1 hs1
  go_wp2_with fail
  refine (H2.out _).mono ?_; rintro e w2 ⟨rfl, hb2⟩
  have b0 := keepL hb2 w.heap.size s0
  have b1 := keepL hb2 (w.heap.size + 1) s1
  have b2 := newL hb2
  have u0 : w.heap.size < w2.heap.size := by have := sizeL hb2; omega
  have u1 : w.heap.size + 1 < w2.heap.size := by have := sizeL hb2; omega
  have u2 : w1.heap.size < w2.heap.size := sizeL hb2
  have HB2 := Lib.hid (nextB HB1.out hb2)
  clear hb2
  go_wp2_with fail
  refine (H3.out _).mono ?_; rintro e w3 ⟨rfl, hb3⟩
  have c0 := keepL hb3 w.heap.size u0
  have c1 := keepL hb3 (w.heap.size + 1) u1
  have c2 := keepL hb3 w1.heap.size u2
  have c3 := newL hb3
  have v0 : w.heap.size < w3.heap.size := by have := sizeL hb3; omega
  have v1 : w.heap.size + 1 < w3.heap.size := by have := sizeL hb3; omega
  have v2 : w1.heap.size < w3.heap.size := by have := sizeL hb3; omega
  have v3 : w2.heap.size < w3.heap.size := sizeL hb3
  have HB3 := Lib.hid (nextB HB2.out hb3)
  clear hb3
  go_wp2_with fail
  refine (H4.out _).mono ?_; rintro e w4 ⟨rfl, hb4⟩
  have d2 := keepL hb4 w1.heap.size v2
  have d3 := keepL hb4 w2.heap.size v3
  have d4 := newL hb4
  have x2 : w1.heap.size < w4.heap.size := by have := sizeL hb4; omega
  have x3 : w2.heap.size < w4.heap.size := by have := sizeL hb4; omega
  have x4 : w3.heap.size < w4.heap.size := sizeL hb4
  have HB4 := Lib.hid (nextB HB3.out hb4)
  clear hb4
  go_wp2_with fail
  refine (answers_at _).mono ?_; rintro e w5 ⟨rfl, hb5⟩
  have e2 := keepL hb5 w1.heap.size x2
  have e3 := keepL hb5 w2.heap.size x3
  have e4 := keepL hb5 w3.heap.size x4
  have e5 := newL hb5
  have HB5 := Lib.hid (nextB HB4.out hb5)
  clear hb5
  go_wp2_with fail
  go_ret
  exact ⟨rfl, HB5.out⟩
end Go.Proofs.Ytlgjlnbdfpncmaa
