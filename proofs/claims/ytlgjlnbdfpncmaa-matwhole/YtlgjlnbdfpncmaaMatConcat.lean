/-
  The contracts of Concat (mat and ref01) and of Identity.
-/
import Derived.Test.YtlgjlnbdfpncmaaMatSix
namespace Go.Proofs.Ytlgjlnbdfpncmaa
open Go.RowKit
open Fx
namespace Fx
/-- the first error of a matrix behind another one -/
def conE (a0 a1 a2 a3 a4 a5 b0 b1 b2 b3 b4 b5 : Int) : Int := kE (dltE b0 b1 b2 b3 a0 a1) (kE (dltE b0 b1 b2 b3 a2 a3) (aplE b0 b1 b2 b3 b4 b5 a4 a5))
end Fx
def ConE (a0 a1 a2 a3 a4 a5 b0 b1 b2 b3 b4 b5 : Int) : World → Ending → World → Prop :=
  MatE (linV b0 a0 b2 a1) (linV b1 a0 b3 a1) (linV b0 a2 b2 a3) (linV b1 a2 b3 a3) (lin1V b0 a4 b2 a5 b4) (lin1V b1 a4 b3 a5 b5) (conE a0 a1 a2 a3 a4 a5 b0 b1 b2 b3 b4 b5)
set_option maxHeartbeats 1000000 in
theorem matConcat_at (a0 a1 a2 a3 a4 a5 b0 b1 b2 b3 b4 b5 : Int) (w : World) :
    Calls Try.prog 13 #[.agg #[.int .i64 a0, .int .i64 a1, .int .i64 a2, .int .i64 a3, .int .i64 a4, .int .i64 a5], .agg #[.int .i64 b0, .int .i64 b1, .int .i64 b2, .int .i64 b3, .int .i64 b4, .int .i64 b5]] w (ConE a0 a1 a2 a3 a4 a5 b0 b1 b2 b3 b4 b5 w) := by
  have h1 := fun (v : World) => wDelta_at (w.heap.size + 1 + 1 + 1) b0 b1 b2 b3 b4 b5 a0 a1 0 v
  have h2 := fun (E : Int) (v : World) => wDelta_at (w.heap.size + 1 + 1 + 1) b0 b1 b2 b3 b4 b5 a2 a3 E v
  have h3 := fun (E : Int) (v : World) => wApply_at (w.heap.size + 1 + 1 + 1) b0 b1 b2 b3 b4 b5 a4 a5 E v
  unfold ConE conE
  have hO := fun (v : World) => out6_at (linV b0 a0 b2 a1) (linV b1 a0 b3 a1) (linV b0 a2 b2 a3) (linV b1 a2 b3 a3) (lin1V b0 a4 b2 a5 b4) (lin1V b1 a4 b3 a5 b5) (kE (kE (dltE b0 b1 b2 b3 a0 a1) (dltE b0 b1 b2 b3 a2 a3)) (aplE b0 b1 b2 b3 b4 b5 a4 a5)) v
  simp only [zero_kE] at h1
  rw [← kE_assoc]
  generalize linV b0 a0 b2 a1 = v0 at h1 hO ⊢
  generalize linV b1 a0 b3 a1 = v1 at h1 hO ⊢
  generalize linV b0 a2 b2 a3 = v2 at h2 hO ⊢
  generalize linV b1 a2 b3 a3 = v3 at h2 hO ⊢
  generalize lin1V b0 a4 b2 a5 b4 = v4 at h3 hO ⊢
  generalize lin1V b1 a4 b3 a5 b5 = v5 at h3 hO ⊢
  generalize dltE b0 b1 b2 b3 a0 a1 = D at h1 hO ⊢
  generalize dltE b0 b1 b2 b3 a2 a3 = F at h2 hO ⊢
  generalize aplE b0 b1 b2 b3 b4 b5 a4 a5 = T at h3 hO ⊢
  unfold KpP at h1 h2 h3
  unfold MatE at hO ⊢
  have H1 := Lib.hid h1
  have H2 := Lib.hid h2
  have H3 := Lib.hid h3
  have HO := Lib.hid hO
  clear h1 h2 h3 hO
  go_enter Try.func13, Try.ntmps13
  go_wp2_with fail
  refine (H1.out _ (by simp [go_sem]) (by simp [go_sem])).mono ?_; rintro e w1 ⟨rfl, hb1, hc1, hf1⟩
  have x0 := hb1.cell w.heap.size (by simp <;> omega) (by omega)
  have x1 := hb1.cell (w.heap.size + 1) (by simp <;> omega) (by omega)
  have t1 : ∀ i, i < 6 → ∃ u, w1.cell? ⟨w.heap.size + 1 + 1, i, none⟩ = some u := by
    intro i hi
    rw [hb1.cell _ (by simp <;> omega) (by omega) i]
    match i, hi with
    | 0, _ | 1, _ | 2, _ | 3, _ | 4, _ | 5, _ => exact ⟨.int .i64 0, by simp [go_sem]⟩
  have f1 : ∀ o, w1.frozen? ⟨w.heap.size + 1 + 1, o, none⟩ = false := fun o => (hb1.frozen _ (by simp <;> omega) (by omega) o).trans (by simp [go_sem])
  have s0 : w.heap.size + 1 + 1 + 1 < w1.heap.size := by have := hb1.size; simp at this; omega
  have s1 : w.heap.size + 1 < w1.heap.size := by omega
  have s2 : w.heap.size < w1.heap.size := by omega
  have hB1 : Below w.heap.size w w1 := hb1.below (((((Below.refl _ w).alloc (by simp) _).alloc (by simp <;> omega) _).alloc (by simp <;> omega) _).alloc (by simp <;> omega) _) (by omega) (by simp <;> omega)
  have HT1 := Lib.hid (And.intro t1 f1)
  have HB1 := Lib.hid hB1
  clear hb1 t1 f1 hB1
  go_wp2_with fail
  refine (H2.out _ _ (by rw [World.cell?_alloc_lt _ _ _ s0]; exact hc1) (by rw [frozen?_alloc_cells]; exact hf1)).mono ?_; rintro e w2 ⟨rfl, hb2, hc2, hf2⟩
  have y0 := but_keep hb2 w.heap.size s2 (by omega)
  have y1 := but_keep hb2 (w.heap.size + 1) s1 (by omega)
  have y2 := but_new hb2 (by omega)
  have u3 := but_size hb2
  have u0 : w.heap.size + 1 + 1 + 1 < w2.heap.size := by omega
  have u1 : w.heap.size + 1 < w2.heap.size := by omega
  have u2 : w.heap.size < w2.heap.size := by omega
  have HT2 : Hid ((∀ i, i < 6 → ∃ u, w2.cell? ⟨w.heap.size + 1 + 1, i, none⟩ = some u) ∧ ∀ o, w2.frozen? ⟨w.heap.size + 1 + 1, o, none⟩ = false) :=
    ⟨fun i hi => by rw [but_keep hb2 (w.heap.size + 1 + 1) (by omega) (by omega) i]; exact HT1.out.1 i hi, fun o => by rw [hb2.frozen _ (by simp <;> omega) (by omega) o, frozen?_alloc_cells]; exact HT1.out.2 o⟩
  have HB2 := Lib.hid (hb2.below (HB1.out.alloc (by omega) _) (by omega) (by simp <;> omega))
  clear hb2 hc1 hf1 HT1
  go_wp2_with fail
  refine (H3.out _ _ (by rw [World.cell?_alloc_lt _ _ _ u0]; exact hc2) (by rw [frozen?_alloc_cells]; exact hf2)).mono ?_; rintro e w3 ⟨rfl, hb3, hc3, hf3⟩
  have z2 := but_keep hb3 w1.heap.size u3 (by omega)
  have z3 := but_new hb3 (by omega)
  have p4 := but_size hb3
  have p0 : w.heap.size + 1 + 1 + 1 < w3.heap.size := by omega
  have p3 : w1.heap.size < w3.heap.size := by omega
  have HT3 : Hid ((∀ i, i < 6 → ∃ u, w3.cell? ⟨w.heap.size + 1 + 1, i, none⟩ = some u) ∧ ∀ o, w3.frozen? ⟨w.heap.size + 1 + 1, o, none⟩ = false) :=
    ⟨fun i hi => by rw [but_keep hb3 (w.heap.size + 1 + 1) (by omega) (by omega) i]; exact HT2.out.1 i hi, fun o => by rw [hb3.frozen _ (by simp <;> omega) (by omega) o, frozen?_alloc_cells]; exact HT2.out.2 o⟩
  have HB3 := Lib.hid (hb3.below (HB2.out.alloc (by omega) _) (by omega) (by simp <;> omega))
  clear hb3 hc2 hf2 HT2
  go_wp2_with fail
  refine (HO.out _).mono ?_; rintro e w4 ⟨rfl, hb4⟩
  have t4 : ∀ i, i < 6 → ∃ u, w4.cell? ⟨w.heap.size + 1 + 1, i, none⟩ = some u := fun i hi => by rw [keepL hb4 _ (by omega) i]; exact HT3.out.1 i hi
  have f4 : ∀ o, w4.frozen? ⟨w.heap.size + 1 + 1, o, none⟩ = false := fun o => by rw [(mcell hb4).2 _ _ (by simp <;> omega), frozen?_alloc_cells]; exact HT3.out.2 o
  have HB4 := Lib.hid (nextB HB3.out hb4)
  have HT4 := Lib.hid t4
  obtain ⟨c0, g0⟩ := t4 0 (by omega)
  obtain ⟨c1, g1⟩ := t4 1 (by omega)
  obtain ⟨c2, g2⟩ := t4 2 (by omega)
  obtain ⟨c3, g3⟩ := t4 3 (by omega)
  obtain ⟨c4, g4⟩ := t4 4 (by omega)
  obtain ⟨c5, g5⟩ := t4 5 (by omega)
  clear hb4 t4 HT3 hc3 hf3
  go_wp2_with fail
  generalize kE (kE D F) T = E
  obtain ⟨q0, q1, q2, q3, q4, q5⟩ := m6_put HT4.out (.int .i64 (sel E v0)) (.int .i64 (sel E v1)) (.int .i64 (sel E v2)) (.int .i64 (sel E v3)) (.int .i64 (sel E v4)) (.int .i64 (sel E v5))
  refine bodyPost_ret (v := .tuple #[.agg #[.int .i64 (sel E v0), .int .i64 (sel E v1), .int .i64 (sel E v2), .int .i64 (sel E v3), .int .i64 (sel E v4), .int .i64 (sel E v5)], .int .i64 E]) (by simp [results, Try.results13, go_sem, q0, q1, q2, q3, q4, q5]) rfl ⟨rfl, ?_⟩
  exact (((((HB4.out.setCell (by simp <;> omega) _).setCell (by simp <;> omega) _).setCell (by simp <;> omega) _).setCell (by simp <;> omega) _).setCell (by simp <;> omega) _).setCell (by simp <;> omega) _
theorem identity_at (w : World) : Calls Try.prog 15 #[] w (Mat6 65536 0 0 65536 0 0 w) := by
  have H := Lib.hid (fun w => translate_at 0 0 w)
  unfold Mat6 at H ⊢
  go_enter Try.func15, Try.ntmps15
  go_wp2_with fail
  refine (H.out _).mono ?_; rintro e w1 ⟨rfl, hb1⟩
  have t1 : ∀ i, i < 6 → ∃ u, w1.cell? ⟨w.heap.size, i, none⟩ = some u := by
    intro i hi
    rw [newL hb1 i]
    match i, hi with
    | 0, _ | 1, _ | 2, _ | 3, _ | 4, _ | 5, _ => exact ⟨.int .i64 0, by simp [go_sem]⟩
  have f1 : ∀ o, w1.frozen? ⟨w.heap.size, o, none⟩ = false := fun o => by rw [(mcell hb1).2 _ _ (by simp <;> omega)]; simp [go_sem]
  have HT := Lib.hid t1
  obtain ⟨c0, g0⟩ := t1 0 (by omega)
  obtain ⟨c1, g1⟩ := t1 1 (by omega)
  obtain ⟨c2, g2⟩ := t1 2 (by omega)
  obtain ⟨c3, g3⟩ := t1 3 (by omega)
  obtain ⟨c4, g4⟩ := t1 4 (by omega)
  obtain ⟨c5, g5⟩ := t1 5 (by omega)
  have HB := Lib.hid (nextB (Below.refl _ w) hb1)
  clear hb1 t1
  go_wp2_with fail
  obtain ⟨q0, q1, q2, q3, q4, q5⟩ := m6_put HT.out (.int .i64 65536) (.int .i64 0) (.int .i64 0) (.int .i64 65536) (.int .i64 0) (.int .i64 0)
  refine bodyPost_ret (v := .agg #[.int .i64 65536, .int .i64 0, .int .i64 0, .int .i64 65536, .int .i64 0, .int .i64 0]) (by simp [results, Try.results15, go_sem, q0, q1, q2, q3, q4, q5]) rfl ⟨rfl, ?_⟩
  exact (((((HB.out.setCell (by simp) _).setCell (by simp) _).setCell (by simp) _).setCell (by simp) _).setCell (by simp) _).setCell (by simp) _
set_option maxHeartbeats 1000000 in
theorem refConcat_at (a0 a1 a2 a3 a4 a5 b0 b1 b2 b3 b4 b5 : Int) (w : World) :
    Calls Try.prog 14 #[.agg #[.int .i64 a0, .int .i64 a1, .int .i64 a2, .int .i64 a3, .int .i64 a4, .int .i64 a5], .agg #[.int .i64 b0, .int .i64 b1, .int .i64 b2, .int .i64 b3, .int .i64 b4, .int .i64 b5]] w (ConE a0 a1 a2 a3 a4 a5 b0 b1 b2 b3 b4 b5 w) := by
  have h1 := fun (v : World) => refDelta_at b0 b1 b2 b3 b4 b5 a0 a1 v
  have h2 := fun (v : World) => refDelta_at b0 b1 b2 b3 b4 b5 a2 a3 v
  have h3 := fun (v : World) => refApply_at b0 b1 b2 b3 b4 b5 a4 a5 v
  unfold ConE conE
  generalize linV b0 a0 b2 a1 = v0 at h1 ⊢
  generalize linV b1 a0 b3 a1 = v1 at h1 ⊢
  generalize linV b0 a2 b2 a3 = v2 at h2 ⊢
  generalize linV b1 a2 b3 a3 = v3 at h2 ⊢
  generalize lin1V b0 a4 b2 a5 b4 = v4 at h3 ⊢
  generalize lin1V b1 a4 b3 a5 b5 = v5 at h3 ⊢
  generalize dltE b0 b1 b2 b3 a0 a1 = D at h1 ⊢
  generalize dltE b0 b1 b2 b3 a2 a3 = F at h2 ⊢
  generalize aplE b0 b1 b2 b3 b4 b5 a4 a5 = T at h3 ⊢
  unfold PtE at h1 h2 h3
  unfold MatE
  have H1 := Lib.hid h1
  have H2 := Lib.hid h2
  have H3 := Lib.hid h3
  clear h1 h2 h3
  go_enter Try.func14, Try.ntmps14
  go_wp2_with fail
  refine (H1.out _).mono ?_; rintro e w1 ⟨rfl, hb1⟩
  have x0 : ∀ o, _ := fun o => (mcell hb1).1 w.heap.size o (by simp <;> omega)
  have x1 : ∀ o, _ := fun o => (mcell hb1).1 (w.heap.size + 1) o (by simp <;> omega)
  have t1 : ∀ i, i < 6 → w1.cell? ⟨w.heap.size + 1 + 1, i, none⟩ = some (.int .i64 0) := by
    intro i hi
    rw [(mcell hb1).1 (w.heap.size + 1 + 1) i (by simp <;> omega)]
    match i, hi with
    | 0, _ | 1, _ | 2, _ | 3, _ | 4, _ | 5, _ => simp [go_sem]
  have f1 : ∀ o, w1.frozen? ⟨w.heap.size + 1 + 1, o, none⟩ = false := fun o => ((mcell hb1).2 _ _ (by simp <;> omega)).trans (by simp [go_sem])
  have s01 : w.heap.size + 1 + 1 < w1.heap.size := by have := hb1.size; simp at this; omega
  have s11 : w.heap.size + 1 < w1.heap.size := by omega
  have s21 : w.heap.size < w1.heap.size := by omega
  have hB1 : Below w.heap.size w w1 := (((((Below.refl _ w).alloc (by simp) _).alloc (by simp <;> omega) _).alloc (by simp <;> omega) _)).trans (hb1.mono (by simp <;> omega))
  have HB1 := Lib.hid hB1
  have HT1 := Lib.hid t1
  clear hb1 hB1
  clear t1
  by_cases hD : D = 0
  · subst hD
    go_wp2_with fail
    refine (H2.out _).mono ?_; rintro e w2 ⟨rfl, hb2⟩
    have b2_0 := keepL hb2 w.heap.size s21
    have b2_1 := keepL hb2 (w.heap.size + 1) s11
    have b2_w1 := newL hb2
    have k2_1 := sizeL hb2
    have s02 : w.heap.size + 1 + 1 < w2.heap.size := by omega
    have s12 : w.heap.size + 1 < w2.heap.size := by omega
    have s22 : w.heap.size < w2.heap.size := by omega
    have t2 : ∀ i, i < 6 → w2.cell? ⟨w.heap.size + 1 + 1, i, none⟩ = some (.int .i64 0) := fun i hi => by rw [keepL hb2 _ s01 i]; exact HT1.out i hi
    have f2 : ∀ o, w2.frozen? ⟨w.heap.size + 1 + 1, o, none⟩ = false := fun o => by rw [(mcell hb2).2 _ _ (by simp <;> omega), frozen?_alloc_cells]; exact f1 o
    have HT2 := Lib.hid t2
    have HB2 := Lib.hid (nextB HB1.out hb2)
    clear hb2 t2
    by_cases hF : F = 0
    · subst hF
      go_wp2_with fail
      refine (H3.out _).mono ?_; rintro e w3 ⟨rfl, hb3⟩
      have b3_0 := keepL hb3 w.heap.size s22
      have b3_1 := keepL hb3 (w.heap.size + 1) s12
      have b3_w1 := keepL hb3 w1.heap.size k2_1
      have b3_w2 := newL hb3
      have k3_2 := sizeL hb3
      have k3_1 : w1.heap.size < w3.heap.size := by omega
      have s03 : w.heap.size + 1 + 1 < w3.heap.size := by omega
      have s13 : w.heap.size + 1 < w3.heap.size := by omega
      have s23 : w.heap.size < w3.heap.size := by omega
      have t3 : ∀ i, i < 6 → w3.cell? ⟨w.heap.size + 1 + 1, i, none⟩ = some (.int .i64 0) := fun i hi => by rw [keepL hb3 _ s02 i]; exact HT2.out i hi
      have f3 : ∀ o, w3.frozen? ⟨w.heap.size + 1 + 1, o, none⟩ = false := fun o => by rw [(mcell hb3).2 _ _ (by simp <;> omega), frozen?_alloc_cells]; exact f2 o
      have HT3 := Lib.hid t3
      have HB3 := Lib.hid (nextB HB2.out hb3)
      clear hb3 t3
      by_cases hT : T = 0
      · subst hT
        have g0 := HT3.out 0 (by omega)
        have g1 := HT3.out 1 (by omega)
        have g2 := HT3.out 2 (by omega)
        have g3 := HT3.out 3 (by omega)
        have g4 := HT3.out 4 (by omega)
        have g5 := HT3.out 5 (by omega)
        go_wp2_with fail
        obtain ⟨q0, q1, q2, q3, q4, q5⟩ := m6_put (fun i hi => ⟨_, HT3.out i hi⟩) (.int .i64 (sel 0 v0)) (.int .i64 (sel 0 v1)) (.int .i64 (sel 0 v2)) (.int .i64 (sel 0 v3)) (.int .i64 (sel 0 v4)) (.int .i64 (sel 0 v5))
        refine bodyPost_ret (v := .tuple #[.agg #[.int .i64 (sel 0 v0), .int .i64 (sel 0 v1), .int .i64 (sel 0 v2), .int .i64 (sel 0 v3), .int .i64 (sel 0 v4), .int .i64 (sel 0 v5)], .int .i64 0]) (by simp [results, Try.results14, go_sem, q0, q1, q2, q3, q4, q5, s03]) rfl ⟨by simp [sel, zero_kE], ?_⟩
        exact ((((((HB3.out.setCell (by simp <;> omega) _).setCell (by simp <;> omega) _).setCell (by simp <;> omega) _).setCell (by simp <;> omega) _).setCell (by simp <;> omega) _).setCell (by simp <;> omega) _).alloc (by simp <;> omega) _
      · have hT' : (T != 0) = true := by simp [hT]
        have g0 := HT3.out 0 (by omega)
        have g1 := HT3.out 1 (by omega)
        have g2 := HT3.out 2 (by omega)
        have g3 := HT3.out 3 (by omega)
        have g4 := HT3.out 4 (by omega)
        have g5 := HT3.out 5 (by omega)
        have HN := Lib.hid hT
        clear hT
        go_wp2_with fail
        obtain ⟨q0, q1, q2, q3, q4, q5⟩ := m6_put (fun i hi => ⟨_, HT3.out i hi⟩) (.int .i64 0) (.int .i64 0) (.int .i64 0) (.int .i64 0) (.int .i64 0) (.int .i64 0)
        refine bodyPost_ret (v := .tuple #[.agg #[.int .i64 0, .int .i64 0, .int .i64 0, .int .i64 0, .int .i64 0, .int .i64 0], .int .i64 T]) (by simp [results, Try.results14, go_sem, q0, q1, q2, q3, q4, q5, s03]) rfl ⟨by simp [sel, zero_kE, HN.out], ?_⟩
        exact ((((((HB3.out.setCell (by simp <;> omega) _).setCell (by simp <;> omega) _).setCell (by simp <;> omega) _).setCell (by simp <;> omega) _).setCell (by simp <;> omega) _).setCell (by simp <;> omega) _).alloc (by simp <;> omega) _
    · have hF' : (F != 0) = true := by simp [hF]
      have g0 := HT2.out 0 (by omega)
      have g1 := HT2.out 1 (by omega)
      have g2 := HT2.out 2 (by omega)
      have g3 := HT2.out 3 (by omega)
      have g4 := HT2.out 4 (by omega)
      have g5 := HT2.out 5 (by omega)
      have HN := Lib.hid hF
      clear hF
      go_wp2_with fail
      obtain ⟨q0, q1, q2, q3, q4, q5⟩ := m6_put (fun i hi => ⟨_, HT2.out i hi⟩) (.int .i64 0) (.int .i64 0) (.int .i64 0) (.int .i64 0) (.int .i64 0) (.int .i64 0)
      refine bodyPost_ret (v := .tuple #[.agg #[.int .i64 0, .int .i64 0, .int .i64 0, .int .i64 0, .int .i64 0, .int .i64 0], .int .i64 F]) (by simp [results, Try.results14, go_sem, q0, q1, q2, q3, q4, q5, s02]) rfl ⟨by simp [sel, zero_kE, kE_first HN.out, HN.out], ?_⟩
      exact ((((((HB2.out.setCell (by simp <;> omega) _).setCell (by simp <;> omega) _).setCell (by simp <;> omega) _).setCell (by simp <;> omega) _).setCell (by simp <;> omega) _).setCell (by simp <;> omega) _).alloc (by simp <;> omega) _
  · have hD' : (D != 0) = true := by simp [hD]
    have g0 := HT1.out 0 (by omega)
    have g1 := HT1.out 1 (by omega)
    have g2 := HT1.out 2 (by omega)
    have g3 := HT1.out 3 (by omega)
    have g4 := HT1.out 4 (by omega)
    have g5 := HT1.out 5 (by omega)
    have HN := Lib.hid hD
    clear hD
    go_wp2_with fail
    obtain ⟨q0, q1, q2, q3, q4, q5⟩ := m6_put (fun i hi => ⟨_, HT1.out i hi⟩) (.int .i64 0) (.int .i64 0) (.int .i64 0) (.int .i64 0) (.int .i64 0) (.int .i64 0)
    refine bodyPost_ret (v := .tuple #[.agg #[.int .i64 0, .int .i64 0, .int .i64 0, .int .i64 0, .int .i64 0, .int .i64 0], .int .i64 D]) (by simp [results, Try.results14, go_sem, q0, q1, q2, q3, q4, q5, s01]) rfl ⟨by simp [sel, kE_first HN.out, HN.out], ?_⟩
    exact ((((((HB1.out.setCell (by simp <;> omega) _).setCell (by simp <;> omega) _).setCell (by simp <;> omega) _).setCell (by simp <;> omega) _).setCell (by simp <;> omega) _).setCell (by simp <;> omega) _).alloc (by simp <;> omega) _
end Go.Proofs.Ytlgjlnbdfpncmaa
