/-
  The contracts of Invert (mat and ref01).
-/
import Derived.Test.YtlgjlnbdfpncmaaMatSix
import Derived.BigQuiet
import Derived.Deep.QuietTactic
namespace Go.Proofs.Ytlgjlnbdfpncmaa
open Go.RowKit
open Fx
theorem mdraws {B : Nat} {v w : World} (h : Below B v w) (n : Nat) : Below B v (w.drewN n) := h.trans ⟨rfl, rfl, rfl, Nat.le_refl _, fun _ _ => rfl⟩
/-- block B of W holds these six numbers, and may be written -/
def R6 (W : World) (B : Nat) (X0 X1 X2 X3 X4 X5 : Int) : Prop := B < W.heap.size ∧ (∀ o, W.frozen? ⟨B, o, none⟩ = false) ∧ W.cell? ⟨B, 0, none⟩ = some (.int .i64 X0) ∧ W.cell? ⟨B, 1, none⟩ = some (.int .i64 X1) ∧ W.cell? ⟨B, 2, none⟩ = some (.int .i64 X2) ∧ W.cell? ⟨B, 3, none⟩ = some (.int .i64 X3) ∧ W.cell? ⟨B, 4, none⟩ = some (.int .i64 X4) ∧ W.cell? ⟨B, 5, none⟩ = some (.int .i64 X5)
theorem R6.lt {W : World} {B : Nat} {X0 X1 X2 X3 X4 X5 : Int} (h : R6 W B X0 X1 X2 X3 X4 X5) : B < W.heap.size := h.1
theorem R6.call {W w' : World} {B b : Nat} {X0 X1 X2 X3 X4 X5 : Int} (h : R6 W B X0 X1 X2 X3 X4 X5) (hb : But b W w') (hne : B ≠ b) : R6 w' B X0 X1 X2 X3 X4 X5 := by
  obtain ⟨h, hf, h0, h1, h2, h3, h4, h5⟩ := h
  have c := hb.cell B h hne
  exact ⟨Nat.lt_of_lt_of_le h hb.size, fun o => by rw [hb.frozen B h hne o]; exact hf o, by rw [c]; exact h0, by rw [c]; exact h1, by rw [c]; exact h2, by rw [c]; exact h3, by rw [c]; exact h4, by rw [c]; exact h5⟩
theorem R6.other {W : World} {B O : Nat} {X0 X1 X2 X3 X4 X5 : Int} (h : R6 W B X0 X1 X2 X3 X4 X5) (hne : B ≠ O) (i : Nat) (v : Value) : R6 (W.setCell ⟨O, i, none⟩ v) B X0 X1 X2 X3 X4 X5 := by
  obtain ⟨h, hf, h0, h1, h2, h3, h4, h5⟩ := h
  have c : ∀ o, (W.setCell ⟨O, i, none⟩ v).cell? ⟨B, o, none⟩ = W.cell? ⟨B, o, none⟩ := fun o => World.cell?_setCell_other _ _ _ _ (adr_ne2 _ _ _ _ (Ne.symm hne))
  exact ⟨by simpa [World.setCell] using h, fun o => (World.frozen?_setCell _ _ _ _).trans (hf o), by rw [c]; exact h0, by rw [c]; exact h1, by rw [c]; exact h2, by rw [c]; exact h3, by rw [c]; exact h4, by rw [c]; exact h5⟩
theorem r6_new (W : World) (X0 X1 X2 X3 X4 X5 : Int) (T : TypeId) : R6 (W.alloc (.cells #[.int .i64 X0, .int .i64 X1, .int .i64 X2, .int .i64 X3, .int .i64 X4, .int .i64 X5] T)) W.heap.size X0 X1 X2 X3 X4 X5 := by
  refine ⟨by simp, fun o => by simp [go_sem], ?_, ?_, ?_, ?_, ?_, ?_⟩ <;> simp [go_sem]
theorem R6.alloc {W : World} {B : Nat} {X0 X1 X2 X3 X4 X5 : Int} (h : R6 W B X0 X1 X2 X3 X4 X5) (O : Obj) : R6 (W.alloc O) B X0 X1 X2 X3 X4 X5 := by
  obtain ⟨h, hf, h0, h1, h2, h3, h4, h5⟩ := h
  have hb : Below W.heap.size W (W.alloc O) := (Below.refl _ _).alloc (Nat.le_refl _) _
  have c := fun o => (mcell hb).1 B o h
  exact ⟨Nat.lt_of_lt_of_le h hb.size, fun o => by rw [(mcell hb).2 B o h]; exact hf o, by rw [c]; exact h0, by rw [c]; exact h1, by rw [c]; exact h2, by rw [c]; exact h3, by rw [c]; exact h4, by rw [c]; exact h5⟩
theorem R6.below {W w' : World} {B : Nat} {X0 X1 X2 X3 X4 X5 : Int} (h : R6 W B X0 X1 X2 X3 X4 X5) (hb : Below W.heap.size W w') : R6 w' B X0 X1 X2 X3 X4 X5 := by
  obtain ⟨h, hf, h0, h1, h2, h3, h4, h5⟩ := h
  have c := fun o => (mcell hb).1 B o h
  exact ⟨Nat.lt_of_lt_of_le h hb.size, fun o => by rw [(mcell hb).2 B o h]; exact hf o, by rw [c]; exact h0, by rw [c]; exact h1, by rw [c]; exact h2, by rw [c]; exact h3, by rw [c]; exact h4, by rw [c]; exact h5⟩
theorem R6.cells {W : World} {B : Nat} {X0 X1 X2 X3 X4 X5 : Int} (h : R6 W B X0 X1 X2 X3 X4 X5) : ∀ i, i < 6 → ∃ u, W.cell? ⟨B, i, none⟩ = some u := by
  obtain ⟨h, hf, h0, h1, h2, h3, h4, h5⟩ := h
  intro i hi
  match i, hi with
  | 0, _ => exact ⟨_, h0⟩
  | 1, _ => exact ⟨_, h1⟩
  | 2, _ => exact ⟨_, h2⟩
  | 3, _ => exact ⟨_, h3⟩
  | 4, _ => exact ⟨_, h4⟩
  | 5, _ => exact ⟨_, h5⟩
theorem R6.put0 {W : World} {B : Nat} {X0 X1 X2 X3 X4 X5 : Int} (h : R6 W B X0 X1 X2 X3 X4 X5) (v : Int) : R6 (W.setCell ⟨B, 0, none⟩ (.int .i64 v)) B v X1 X2 X3 X4 X5 := by
  obtain ⟨h, hf, h0, h1, h2, h3, h4, h5⟩ := h
  refine ⟨by simpa [World.setCell] using h, fun o => (World.frozen?_setCell _ _ _ _).trans (hf o), ?_, ?_, ?_, ?_, ?_, ?_⟩
  · exact World.cell?_setCell_same _ _ _ h0
  · rw [World.cell?_setCell_other _ _ _ _ (adr_ne _ _ _ (by omega))]; exact h1
  · rw [World.cell?_setCell_other _ _ _ _ (adr_ne _ _ _ (by omega))]; exact h2
  · rw [World.cell?_setCell_other _ _ _ _ (adr_ne _ _ _ (by omega))]; exact h3
  · rw [World.cell?_setCell_other _ _ _ _ (adr_ne _ _ _ (by omega))]; exact h4
  · rw [World.cell?_setCell_other _ _ _ _ (adr_ne _ _ _ (by omega))]; exact h5
theorem R6.put1 {W : World} {B : Nat} {X0 X1 X2 X3 X4 X5 : Int} (h : R6 W B X0 X1 X2 X3 X4 X5) (v : Int) : R6 (W.setCell ⟨B, 1, none⟩ (.int .i64 v)) B X0 v X2 X3 X4 X5 := by
  obtain ⟨h, hf, h0, h1, h2, h3, h4, h5⟩ := h
  refine ⟨by simpa [World.setCell] using h, fun o => (World.frozen?_setCell _ _ _ _).trans (hf o), ?_, ?_, ?_, ?_, ?_, ?_⟩
  · rw [World.cell?_setCell_other _ _ _ _ (adr_ne _ _ _ (by omega))]; exact h0
  · exact World.cell?_setCell_same _ _ _ h1
  · rw [World.cell?_setCell_other _ _ _ _ (adr_ne _ _ _ (by omega))]; exact h2
  · rw [World.cell?_setCell_other _ _ _ _ (adr_ne _ _ _ (by omega))]; exact h3
  · rw [World.cell?_setCell_other _ _ _ _ (adr_ne _ _ _ (by omega))]; exact h4
  · rw [World.cell?_setCell_other _ _ _ _ (adr_ne _ _ _ (by omega))]; exact h5
theorem R6.put2 {W : World} {B : Nat} {X0 X1 X2 X3 X4 X5 : Int} (h : R6 W B X0 X1 X2 X3 X4 X5) (v : Int) : R6 (W.setCell ⟨B, 2, none⟩ (.int .i64 v)) B X0 X1 v X3 X4 X5 := by
  obtain ⟨h, hf, h0, h1, h2, h3, h4, h5⟩ := h
  refine ⟨by simpa [World.setCell] using h, fun o => (World.frozen?_setCell _ _ _ _).trans (hf o), ?_, ?_, ?_, ?_, ?_, ?_⟩
  · rw [World.cell?_setCell_other _ _ _ _ (adr_ne _ _ _ (by omega))]; exact h0
  · rw [World.cell?_setCell_other _ _ _ _ (adr_ne _ _ _ (by omega))]; exact h1
  · exact World.cell?_setCell_same _ _ _ h2
  · rw [World.cell?_setCell_other _ _ _ _ (adr_ne _ _ _ (by omega))]; exact h3
  · rw [World.cell?_setCell_other _ _ _ _ (adr_ne _ _ _ (by omega))]; exact h4
  · rw [World.cell?_setCell_other _ _ _ _ (adr_ne _ _ _ (by omega))]; exact h5
theorem R6.put3 {W : World} {B : Nat} {X0 X1 X2 X3 X4 X5 : Int} (h : R6 W B X0 X1 X2 X3 X4 X5) (v : Int) : R6 (W.setCell ⟨B, 3, none⟩ (.int .i64 v)) B X0 X1 X2 v X4 X5 := by
  obtain ⟨h, hf, h0, h1, h2, h3, h4, h5⟩ := h
  refine ⟨by simpa [World.setCell] using h, fun o => (World.frozen?_setCell _ _ _ _).trans (hf o), ?_, ?_, ?_, ?_, ?_, ?_⟩
  · rw [World.cell?_setCell_other _ _ _ _ (adr_ne _ _ _ (by omega))]; exact h0
  · rw [World.cell?_setCell_other _ _ _ _ (adr_ne _ _ _ (by omega))]; exact h1
  · rw [World.cell?_setCell_other _ _ _ _ (adr_ne _ _ _ (by omega))]; exact h2
  · exact World.cell?_setCell_same _ _ _ h3
  · rw [World.cell?_setCell_other _ _ _ _ (adr_ne _ _ _ (by omega))]; exact h4
  · rw [World.cell?_setCell_other _ _ _ _ (adr_ne _ _ _ (by omega))]; exact h5
theorem R6.put4 {W : World} {B : Nat} {X0 X1 X2 X3 X4 X5 : Int} (h : R6 W B X0 X1 X2 X3 X4 X5) (v : Int) : R6 (W.setCell ⟨B, 4, none⟩ (.int .i64 v)) B X0 X1 X2 X3 v X5 := by
  obtain ⟨h, hf, h0, h1, h2, h3, h4, h5⟩ := h
  refine ⟨by simpa [World.setCell] using h, fun o => (World.frozen?_setCell _ _ _ _).trans (hf o), ?_, ?_, ?_, ?_, ?_, ?_⟩
  · rw [World.cell?_setCell_other _ _ _ _ (adr_ne _ _ _ (by omega))]; exact h0
  · rw [World.cell?_setCell_other _ _ _ _ (adr_ne _ _ _ (by omega))]; exact h1
  · rw [World.cell?_setCell_other _ _ _ _ (adr_ne _ _ _ (by omega))]; exact h2
  · rw [World.cell?_setCell_other _ _ _ _ (adr_ne _ _ _ (by omega))]; exact h3
  · exact World.cell?_setCell_same _ _ _ h4
  · rw [World.cell?_setCell_other _ _ _ _ (adr_ne _ _ _ (by omega))]; exact h5
theorem R6.put5 {W : World} {B : Nat} {X0 X1 X2 X3 X4 X5 : Int} (h : R6 W B X0 X1 X2 X3 X4 X5) (v : Int) : R6 (W.setCell ⟨B, 5, none⟩ (.int .i64 v)) B X0 X1 X2 X3 X4 v := by
  obtain ⟨h, hf, h0, h1, h2, h3, h4, h5⟩ := h
  refine ⟨by simpa [World.setCell] using h, fun o => (World.frozen?_setCell _ _ _ _).trans (hf o), ?_, ?_, ?_, ?_, ?_, ?_⟩
  · rw [World.cell?_setCell_other _ _ _ _ (adr_ne _ _ _ (by omega))]; exact h0
  · rw [World.cell?_setCell_other _ _ _ _ (adr_ne _ _ _ (by omega))]; exact h1
  · rw [World.cell?_setCell_other _ _ _ _ (adr_ne _ _ _ (by omega))]; exact h2
  · rw [World.cell?_setCell_other _ _ _ _ (adr_ne _ _ _ (by omega))]; exact h3
  · rw [World.cell?_setCell_other _ _ _ _ (adr_ne _ _ _ (by omega))]; exact h4
  · exact World.cell?_setCell_same _ _ _ h5
namespace Fx
/-- the first error of the way back, of the determinant D and its error F -/
def invE (D F m0 m1 m2 m3 m4 m5 : Int) : Int :=
  kE F (kE (divE m3 D) (kE (subE 0 m1) (kE (divE (subV 0 m1) D) (kE (subE 0 m2) (kE (divE (subV 0 m2) D) (kE (divE m0 D) (kE (crsE m2 m5 m3 m4) (kE (divE (crsV m2 m5 m3 m4) D) (kE (crsE m1 m4 m0 m5) (divE (crsV m1 m4 m0 m5) D))))))))))
theorem crsE_fits {a y c x : Int} (h : crsE a y c x = 0) : fits y = true := by
  unfold crsE at h
  have h1 := (kE_eq_zero.1 h).1
  unfold mulE at h1
  by_cases hf : (fits a && fits y) = true
  · simp at hf; exact hf.2
  · rw [if_neg hf] at h1; omega
theorem divE_zero {a : Int} (h : fits a = true) : divE a 0 = 18 := by simp [divE, h, fits_zero]
end Fx
def InvE (m0 m1 m2 m3 m4 m5 : Int) : World → Ending → World → Prop :=
  MatE (divV m3 (crsV m0 m3 m1 m2)) (divV (subV 0 m1) (crsV m0 m3 m1 m2)) (divV (subV 0 m2) (crsV m0 m3 m1 m2)) (divV m0 (crsV m0 m3 m1 m2)) (divV (crsV m2 m5 m3 m4) (crsV m0 m3 m1 m2)) (divV (crsV m1 m4 m0 m5) (crsV m0 m3 m1 m2)) (invE (crsV m0 m3 m1 m2) (crsE m0 m3 m1 m2) m0 m1 m2 m3 m4 m5)
set_option maxHeartbeats 2000000 in
theorem matInvert_at (m0 m1 m2 m3 m4 m5 : Int) (w : World) :
    Calls Try.prog 17 #[.agg #[.int .i64 m0, .int .i64 m1, .int .i64 m2, .int .i64 m3, .int .i64 m4, .int .i64 m5]] w (InvE m0 m1 m2 m3 m4 m5 w) := by
  have h1 := fun (v : World) => wDet_at (w.heap.size + 1 + 1) m0 m1 m2 m3 m4 m5 0 v
  simp only [zero_kE] at h1
  unfold InvE
  generalize crsV m0 m3 m1 m2 = D at h1 ⊢
  generalize crsE m0 m3 m1 m2 = F at h1 ⊢
  have HD := Lib.hid (fun (a c E : Int) (v : World) => wDiv_at (w.heap.size + 1 + 1) a c E v)
  have HS := Lib.hid (fun (a c E : Int) (v : World) => wSub_at (w.heap.size + 1 + 1) a c E v)
  have HC := Lib.hid (fun (a c x y E : Int) (v : World) => wCross_at (w.heap.size + 1 + 1) a c x y E v)
  obtain ⟨E, hE⟩ : ∃ E, kE (kE (kE (kE (kE (kE (kE (kE (kE (kE (F) (divE m3 D)) (subE 0 m1)) (divE (subV 0 m1) D)) (subE 0 m2)) (divE (subV 0 m2) D)) (divE m0 D)) (crsE m2 m5 m3 m4)) (divE (crsV m2 m5 m3 m4) D)) (crsE m1 m4 m0 m5)) (divE (crsV m1 m4 m0 m5) D) = E := ⟨_, rfl⟩
  have hI : invE D F m0 m1 m2 m3 m4 m5 = E := by rw [← hE]; simp only [invE, kE_assoc]
  rw [hI]
  have HE := Lib.hid hE
  have HO := Lib.hid (fun (v : World) => out6_at (divV m3 D) (divV (subV 0 m1) D) (divV (subV 0 m2) D) (divV m0 D) (divV (crsV m2 m5 m3 m4) D) (divV (crsV m1 m4 m0 m5) D) E v)
  unfold MatE at HO ⊢
  unfold Kp at h1 HD HS HC
  have H1 := Lib.hid h1
  clear h1 hE hI
  go_enter Try.func17, Try.ntmps17
  go_wp2_with fail
  go_quiet (fail)
  go_wp2_with fail
  refine (H1.out _ (by simp [go_sem]) (by simp [go_sem])).mono ?_; rintro e w1 ⟨rfl, hb, hc, hf⟩
  have hR : R6 w1 (w.heap.size + 1) 0 0 0 0 0 0 := by
    refine R6.call ?_ hb (by omega)
    refine ⟨by simp <;> omega, fun o => by simp [go_sem], ?_, ?_, ?_, ?_, ?_, ?_⟩ <;> simp [go_sem]
  have hB : Below w.heap.size w w1 := hb.below ((mdraws (((Below.refl w.heap.size w).alloc (by simp) _).alloc (by simp <;> omega) _) _).alloc (by simp <;> omega) _) (by omega) (by simp <;> omega)
  have HR := Lib.hid hR
  have HB := Lib.hid hB
  clear hR hB hb
  go_wp2_with fail
  refine (HD.out _ _ _ _ hc hf).mono ?_; clear hc hf; rintro e w2 ⟨rfl, hb, hc, hf⟩
  have hR := HR.out.call hb (by omega)
  have hB := hb.below HB.out (by omega) HB.out.size
  clear HR HB
  have HR := Lib.hid hR
  have HB := Lib.hid hB
  clear hR hB hb
  go_wp2_with fail
  refine (HS.out _ _ _ _ hc hf).mono ?_; clear hc hf; rintro e w3 ⟨rfl, hb, hc, hf⟩
  have hR := HR.out.call hb (by omega)
  have hB := hb.below HB.out (by omega) HB.out.size
  clear HR HB
  have HR := Lib.hid hR
  have HB := Lib.hid hB
  clear hR hB hb
  go_wp2_with fail
  refine (HD.out _ _ _ _ hc hf).mono ?_; clear hc hf; rintro e w4 ⟨rfl, hb, hc, hf⟩
  have hR := HR.out.call hb (by omega)
  have hB := hb.below HB.out (by omega) HB.out.size
  clear HR HB
  have HR := Lib.hid hR
  have HB := Lib.hid hB
  clear hR hB hb
  go_wp2_with fail
  refine (HS.out _ _ _ _ hc hf).mono ?_; clear hc hf; rintro e w5 ⟨rfl, hb, hc, hf⟩
  have hR := HR.out.call hb (by omega)
  have hB := hb.below HB.out (by omega) HB.out.size
  clear HR HB
  have HR := Lib.hid hR
  have HB := Lib.hid hB
  clear hR hB hb
  go_wp2_with fail
  refine (HD.out _ _ _ _ hc hf).mono ?_; clear hc hf; rintro e w6 ⟨rfl, hb, hc, hf⟩
  have hR := HR.out.call hb (by omega)
  have hB := hb.below HB.out (by omega) HB.out.size
  clear HR HB
  have HR := Lib.hid hR
  have HB := Lib.hid hB
  clear hR hB hb
  go_wp2_with fail
  refine (HD.out _ _ _ _ hc hf).mono ?_; clear hc hf; rintro e w7 ⟨rfl, hb, hc, hf⟩
  have hR := HR.out.call hb (by omega)
  have hB := hb.below HB.out (by omega) HB.out.size
  clear HR HB
  have HR := Lib.hid hR
  have HB := Lib.hid hB
  clear hR hB hb
  go_wp2_with fail
  refine (HC.out _ _ _ _ _ _ hc hf).mono ?_; clear hc hf; rintro e w8 ⟨rfl, hb, hc, hf⟩
  have hR := HR.out.call hb (by omega)
  have hB := hb.below HB.out (by omega) HB.out.size
  clear HR HB
  have HR := Lib.hid hR
  have HB := Lib.hid hB
  clear hR hB hb
  go_wp2_with fail
  refine (HD.out _ _ _ _ hc hf).mono ?_; clear hc hf; rintro e w9 ⟨rfl, hb, hc, hf⟩
  have hR := HR.out.call hb (by omega)
  have hB := hb.below HB.out (by omega) HB.out.size
  clear HR HB
  have HR := Lib.hid hR
  have HB := Lib.hid hB
  clear hR hB hb
  go_wp2_with fail
  refine (HC.out _ _ _ _ _ _ hc hf).mono ?_; clear hc hf; rintro e w10 ⟨rfl, hb, hc, hf⟩
  have hR := HR.out.call hb (by omega)
  have hB := hb.below HB.out (by omega) HB.out.size
  clear HR HB
  have HR := Lib.hid hR
  have HB := Lib.hid hB
  clear hR hB hb
  go_wp2_with fail
  refine (HD.out _ _ _ _ hc hf).mono ?_; clear hc hf; rintro e w11 ⟨rfl, hb, hc, hf⟩
  have hR := HR.out.call hb (by omega)
  have hB := hb.below HB.out (by omega) HB.out.size
  clear HR HB
  have HR := Lib.hid hR
  have HB := Lib.hid hB
  clear hR hB hb
  rw [HE.out] at hc
  have hl : w.heap.size + 1 + 1 < w11.heap.size := World.block_lt_of_cell? w11 _ hc
  go_wp2_with fail
  refine (HO.out _).mono ?_; rintro e w12 ⟨rfl, hb⟩
  have hR := (HR.out.alloc (Obj.cells #[.int .i64 (divV m3 D), .int .i64 (divV (subV 0 m1) D), .int .i64 (divV (subV 0 m2) D), .int .i64 (divV m0 D), .int .i64 (divV (crsV m2 m5 m3 m4) D), .int .i64 (divV (crsV m1 m4 m0 m5) D)] 22)).below hb
  have hB := nextB HB.out hb
  have HB2 := Lib.hid hB
  have HT := Lib.hid hR.cells
  obtain ⟨_, g, g0, g1, g2, g3, g4, g5⟩ := hR
  clear HB HR hB hb hc hf
  go_wp2_with fail
  obtain ⟨q0, q1, q2, q3, q4, q5⟩ := m6_put HT.out (.int .i64 (sel E (divV m3 D))) (.int .i64 (sel E (divV (subV 0 m1) D))) (.int .i64 (sel E (divV (subV 0 m2) D))) (.int .i64 (sel E (divV m0 D))) (.int .i64 (sel E (divV (crsV m2 m5 m3 m4) D))) (.int .i64 (sel E (divV (crsV m1 m4 m0 m5) D)))
  refine bodyPost_ret (v := .tuple #[.agg #[.int .i64 (sel E (divV m3 D)), .int .i64 (sel E (divV (subV 0 m1) D)), .int .i64 (sel E (divV (subV 0 m2) D)), .int .i64 (sel E (divV m0 D)), .int .i64 (sel E (divV (crsV m2 m5 m3 m4) D)), .int .i64 (sel E (divV (crsV m1 m4 m0 m5) D))], .int .i64 E]) (by simp [results, Try.results17, go_sem, q0, q1, q2, q3, q4, q5]) rfl ⟨rfl, ?_⟩
  exact (((((HB2.out.setCell (by simp <;> omega) _).setCell (by simp <;> omega) _).setCell (by simp <;> omega) _).setCell (by simp <;> omega) _).setCell (by simp <;> omega) _).setCell (by simp <;> omega) _
end Go.Proofs.Ytlgjlnbdfpncmaa
