/-
  The contracts of ref01's Delta and Apply, and of mat's Delta.
-/
import Derived.Test.YtlgjlnbdfpncmaaMatApply
import Derived.Deep.DeepCutAuto
import Derived.Deep.RegionWith
namespace Go.Proofs.Ytlgjlnbdfpncmaa
open Go.RowKit
open Fx
theorem sAdd0_at (b : Nat) (a E : Int) (w : World) (h : fits a = true) (hc : w.cell? ⟨b, 0, none⟩ = some (.int .i64 E)) (hf : w.frozen? ⟨b, 0, none⟩ = false) :
    Calls Try.prog 26 #[.pointer (some ⟨b, 0, none⟩), .int .i64 0, .int .i64 a] w (Kp b a E w) := by
  have := sAdd_at b 0 a E w hc hf
  rwa [addV_zero h, addE_zero h, kE_zero] at this
/-- a slot and a world where two ways meet again -/
def MeetR (b : Nat) (V E : Int) (w : World) (s : Value) (w' : World) : Prop := s = .int .i64 V ∧ But b w w' ∧ w'.cell? ⟨b, 0, none⟩ = some (.int .i64 E) ∧ w'.frozen? ⟨b, 0, none⟩ = false
set_option maxHeartbeats 1000000 in
theorem refDelta_at (m0 m1 m2 m3 m4 m5 x y : Int) (w : World) :
    Calls Try.prog 11 #[.agg #[.int .i64 m0, .int .i64 m1, .int .i64 m2, .int .i64 m3, .int .i64 m4, .int .i64 m5], .agg #[.int .i64 x, .int .i64 y]] w (PtE (linV m0 x m2 y) (linV m1 x m3 y) (dltE m0 m1 m2 m3 x y) w) := by
  have HM := Lib.hid (fun (a c E : Int) (v : World) => sMul_at (w.heap.size + 1 + 1 + 1) a c E v)
  have HA := Lib.hid (fun (a c E : Int) (v : World) => sAdd_at (w.heap.size + 1 + 1 + 1) a c E v)
  have HZ := Lib.hid (fun (a c E : Int) (v : World) => sAdd0_at (w.heap.size + 1 + 1 + 1) (mulV a c) E v (fits_mulV a c))
  have HE : kE (kE (kE (kE (kE (kE (0) (mulE m0 x)) (mulE m2 y)) (addE (mulV m0 x) (mulV m2 y))) (mulE m1 x)) (mulE m3 y)) (addE (mulV m1 x) (mulV m3 y)) = dltE m0 m1 m2 m3 x y := by simp only [dltE, linE, kE_assoc, zero_kE]
  obtain ⟨E, hE⟩ : ∃ E, kE (kE (kE (kE (kE (kE (0) (mulE m0 x)) (mulE m2 y)) (addE (mulV m0 x) (mulV m2 y))) (mulE m1 x)) (mulE m3 y)) (addE (mulV m1 x) (mulV m3 y)) = E := ⟨_, rfl⟩
  rw [← HE, hE]
  have HEE := Lib.hid hE
  clear HE hE
  unfold linV
  unfold Kp at HM HA HZ
  unfold PtE
  go_enter Try.func11, Try.ntmps11
  go_wp2_with fail
  refine (HM.out _ _ 0 _ (by simp [go_sem]) (by simp [go_sem])).mono ?_; rintro e w1 ⟨rfl, hb, hc, hf⟩
  have b0 := hb.cell w.heap.size (by simp <;> omega) (by omega)
  have b1 := hb.cell (w.heap.size + 1) (by simp <;> omega) (by omega)
  have t0 : w1.cell? ⟨w.heap.size + 1 + 1, 0, none⟩ = some (.int .i64 0) := (hb.cell _ (by simp <;> omega) (by omega) 0).trans (by simp [go_sem])
  have t1 : w1.cell? ⟨w.heap.size + 1 + 1, 1, none⟩ = some (.int .i64 0) := (hb.cell _ (by simp <;> omega) (by omega) 1).trans (by simp [go_sem])
  have tf : ∀ o, w1.frozen? ⟨w.heap.size + 1 + 1, o, none⟩ = false := fun o => (hb.frozen _ (by simp <;> omega) (by omega) o).trans (by simp [go_sem])
  have hBel : Below w.heap.size w w1 := hb.below (((((Below.refl _ w).alloc (by simp) _).alloc (by simp <;> omega) _).alloc (by simp <;> omega) _).alloc (by simp <;> omega) _) (by omega) (by simp <;> omega)
  have hs : w.heap.size + 1 + 1 + 1 < w1.heap.size := by have := hb.size; simp at this; omega
  have HS := Lib.hid hs
  have HT := Lib.hid (And.intro t0 (And.intro t1 tf))
  have HBel := Lib.hid hBel
  have HB := Lib.hid (But.refl (w.heap.size + 1 + 1 + 1) w1)
  clear hb t0 t1 tf hs hBel
  go_wp2_with fail
  refine (HM.out _ _ _ _ hc hf).mono ?_; clear hc hf; rintro e w2 ⟨rfl, hb2, hc, hf⟩
  have hb := HB.out.trans hb2
  clear HB hb2
  have r0 := hb.cell w.heap.size (by have := HS.out; omega) (by omega)
  have r1 := hb.cell (w.heap.size + 1) (by have := HS.out; omega) (by omega)
  have HB := Lib.hid hb
  clear hb
  go_wp2_with fail
  refine (HZ.out _ _ _ _ hc hf).mono ?_; clear hc hf r0 r1; rintro e w3 ⟨rfl, hb2, hc, hf⟩
  have hb := HB.out.trans hb2
  clear HB hb2
  have r0 := hb.cell w.heap.size (by have := HS.out; omega) (by omega)
  have r1 := hb.cell (w.heap.size + 1) (by have := HS.out; omega) (by omega)
  have HB := Lib.hid hb
  clear hb
  go_wp2_with fail
  refine (HA.out _ _ _ _ hc hf).mono ?_; clear hc hf r0 r1; rintro e w4 ⟨rfl, hb2, hc, hf⟩
  have hb := HB.out.trans hb2
  clear HB hb2
  have r0 := hb.cell w.heap.size (by have := HS.out; omega) (by omega)
  have r1 := hb.cell (w.heap.size + 1) (by have := HS.out; omega) (by omega)
  have HB := Lib.hid hb
  clear hb
  go_wp2_with fail
  refine (HM.out _ _ _ _ hc hf).mono ?_; clear hc hf r0 r1; rintro e w5 ⟨rfl, hb2, hc, hf⟩
  have hb := HB.out.trans hb2
  clear HB hb2
  have r0 := hb.cell w.heap.size (by have := HS.out; omega) (by omega)
  have r1 := hb.cell (w.heap.size + 1) (by have := HS.out; omega) (by omega)
  have HB := Lib.hid hb
  clear hb
  go_wp2_with fail
  refine (HM.out _ _ _ _ hc hf).mono ?_; clear hc hf r0 r1; rintro e w6 ⟨rfl, hb2, hc, hf⟩
  have hb := HB.out.trans hb2
  clear HB hb2
  have r0 := hb.cell w.heap.size (by have := HS.out; omega) (by omega)
  have r1 := hb.cell (w.heap.size + 1) (by have := HS.out; omega) (by omega)
  have HB := Lib.hid hb
  clear hb
  go_wp2_with fail
  refine (HZ.out _ _ _ _ hc hf).mono ?_; clear hc hf r0 r1; rintro e w7 ⟨rfl, hb2, hc, hf⟩
  have hb := HB.out.trans hb2
  clear HB hb2
  have r0 := hb.cell w.heap.size (by have := HS.out; omega) (by omega)
  have r1 := hb.cell (w.heap.size + 1) (by have := HS.out; omega) (by omega)
  have HB := Lib.hid hb
  clear hb
  go_wp2_with fail
  refine (HA.out _ _ _ _ hc hf).mono ?_; clear hc hf r0 r1; rintro e w8 ⟨rfl, hb2, hc, hf⟩
  have hb := HB.out.trans hb2
  clear HB hb2
  have r0 := hb.cell w.heap.size (by have := HS.out; omega) (by omega)
  have r1 := hb.cell (w.heap.size + 1) (by have := HS.out; omega) (by omega)
  have HB := Lib.hid hb
  clear hb
  rw [HEE.out] at hc
  have t0 : w8.cell? ⟨w.heap.size + 1 + 1, 0, none⟩ = some (.int .i64 0) := (HB.out.cell _ (by have := HS.out; omega) (by omega) 0).trans HT.out.1
  have t1 : w8.cell? ⟨w.heap.size + 1 + 1, 1, none⟩ = some (.int .i64 0) := (HB.out.cell _ (by have := HS.out; omega) (by omega) 1).trans HT.out.2.1
  have tf : ∀ o, w8.frozen? ⟨w.heap.size + 1 + 1, o, none⟩ = false := fun o => (HB.out.frozen _ (by have := HS.out; omega) (by omega) o).trans (HT.out.2.2 o)
  have hBel : Below w.heap.size w w8 := HB.out.below HBel.out (by omega) HBel.out.size
  have HBn := Lib.hid hBel
  clear HEE HB r0 r1 hBel HBel HT HS b0 b1
  by_cases h : E = 0
  · subst h
    go_wp2_with fail
    obtain ⟨p0, p1⟩ := pt_put t0 t1 (.int .i64 (addV (mulV m0 x) (mulV m2 y))) (.int .i64 (addV (mulV m1 x) (mulV m3 y)))
    refine bodyPost_ret (v := .tuple #[.agg #[.int .i64 (addV (mulV m0 x) (mulV m2 y)), .int .i64 (addV (mulV m1 x) (mulV m3 y))], .int .i64 0]) (by simp [results, Try.results11, go_sem, p0, p1]) rfl ⟨by simp [sel], ?_⟩
    exact (HBn.out.setCell (by simp <;> omega) _).setCell (by simp <;> omega) _
  · have hE : (E != 0) = true := by simp [h]
    have HN := Lib.hid h
    clear h
    go_wp2_with fail
    go_region
    all_goals go_wp2_with fail
    all_goals obtain ⟨p0, p1⟩ := pt_put t0 t1 (.int .i64 0) (.int .i64 0)
    all_goals refine bodyPost_ret (v := .tuple #[.agg #[.int .i64 0, .int .i64 0], .int .i64 E]) (by simp [results, Try.results11, go_sem, p0, p1]) rfl ⟨by simp [sel, HN.out], ?_⟩
    all_goals exact ((HBn.out.setCell (by simp <;> omega) _).setCell (by simp <;> omega) _).drew
set_option maxHeartbeats 1000000 in
theorem refApply_at (m0 m1 m2 m3 m4 m5 x y : Int) (w : World) :
    Calls Try.prog 9 #[.agg #[.int .i64 m0, .int .i64 m1, .int .i64 m2, .int .i64 m3, .int .i64 m4, .int .i64 m5], .agg #[.int .i64 x, .int .i64 y]] w (PtE (lin1V m0 x m2 y m4) (lin1V m1 x m3 y m5) (aplE m0 m1 m2 m3 m4 m5 x y) w) := by
  have HM := Lib.hid (fun (a c E : Int) (v : World) => sMul_at (w.heap.size + 1 + 1 + 1) a c E v)
  have HA := Lib.hid (fun (a c E : Int) (v : World) => sAdd_at (w.heap.size + 1 + 1 + 1) a c E v)
  have HE : kE (kE (kE (kE (kE (kE (kE (kE (0) (mulE m0 x)) (mulE m2 y)) (addE (mulV m0 x) (mulV m2 y))) (addE (addV (mulV m0 x) (mulV m2 y)) m4)) (mulE m1 x)) (mulE m3 y)) (addE (mulV m1 x) (mulV m3 y))) (addE (addV (mulV m1 x) (mulV m3 y)) m5) = aplE m0 m1 m2 m3 m4 m5 x y := by simp only [aplE, lin1E, linE, linV, kE_assoc, zero_kE]
  obtain ⟨E, hE⟩ : ∃ E, kE (kE (kE (kE (kE (kE (kE (kE (0) (mulE m0 x)) (mulE m2 y)) (addE (mulV m0 x) (mulV m2 y))) (addE (addV (mulV m0 x) (mulV m2 y)) m4)) (mulE m1 x)) (mulE m3 y)) (addE (mulV m1 x) (mulV m3 y))) (addE (addV (mulV m1 x) (mulV m3 y)) m5) = E := ⟨_, rfl⟩
  rw [← HE, hE]
  have HEE := Lib.hid hE
  clear HE hE
  unfold lin1V linV
  unfold Kp at HM HA
  unfold PtE
  go_enter Try.func9, Try.ntmps9
  go_wp2_with fail
  refine (HM.out _ _ 0 _ (by simp [go_sem]) (by simp [go_sem])).mono ?_; rintro e w1 ⟨rfl, hb, hc, hf⟩
  have b0 := hb.cell w.heap.size (by simp <;> omega) (by omega)
  have b1 := hb.cell (w.heap.size + 1) (by simp <;> omega) (by omega)
  have t0 : w1.cell? ⟨w.heap.size + 1 + 1, 0, none⟩ = some (.int .i64 0) := (hb.cell _ (by simp <;> omega) (by omega) 0).trans (by simp [go_sem])
  have t1 : w1.cell? ⟨w.heap.size + 1 + 1, 1, none⟩ = some (.int .i64 0) := (hb.cell _ (by simp <;> omega) (by omega) 1).trans (by simp [go_sem])
  have tf : ∀ o, w1.frozen? ⟨w.heap.size + 1 + 1, o, none⟩ = false := fun o => (hb.frozen _ (by simp <;> omega) (by omega) o).trans (by simp [go_sem])
  have hBel : Below w.heap.size w w1 := hb.below (((((Below.refl _ w).alloc (by simp) _).alloc (by simp <;> omega) _).alloc (by simp <;> omega) _).alloc (by simp <;> omega) _) (by omega) (by simp <;> omega)
  have hs : w.heap.size + 1 + 1 + 1 < w1.heap.size := by have := hb.size; simp at this; omega
  have HS := Lib.hid hs
  have HT := Lib.hid (And.intro t0 (And.intro t1 tf))
  have HBel := Lib.hid hBel
  have HB := Lib.hid (But.refl (w.heap.size + 1 + 1 + 1) w1)
  clear hb t0 t1 tf hs hBel
  go_wp2_with fail
  refine (HM.out _ _ _ _ hc hf).mono ?_; clear hc hf; rintro e w2 ⟨rfl, hb2, hc, hf⟩
  have hb := HB.out.trans hb2
  clear HB hb2
  have r0 := hb.cell w.heap.size (by have := HS.out; omega) (by omega)
  have r1 := hb.cell (w.heap.size + 1) (by have := HS.out; omega) (by omega)
  have HB := Lib.hid hb
  clear hb
  go_wp2_with fail
  have HBd := Lib.hid (HB.out.drew)
  have HC := Lib.hid (And.intro (show w2.drew.cell? ⟨w.heap.size + 1 + 1 + 1, 0, none⟩ = _ from hc) (show w2.drew.frozen? ⟨w.heap.size + 1 + 1 + 1, 0, none⟩ = _ from hf))
  go_cut [9] (fun s wx => MeetR (w.heap.size + 1 + 1 + 1) (addV (addV (mulV m0 x) (mulV m2 y)) m4) (kE (kE (kE (kE (0) (mulE m0 x)) (mulE m2 y)) (addE (mulV m0 x) (mulV m2 y))) (addE (addV (mulV m0 x) (mulV m2 y)) m4)) w1 s wx)
  case first =>
    go_region_with (go_at_call 26; first | (refine (HA.out _ _ _ _ hc4 hf4).mono ?_; rintro e w5 ⟨rfl, hb5, hc5, hf5⟩) | (refine (HA.out _ _ _ _ HC.out.1 HC.out.2).mono ?_; rintro e w4 ⟨rfl, hb4, hc4, hf4⟩; have q0 := (HBd.out.trans hb4).cell w.heap.size (by have := HS.out; omega) (by omega)))
    all_goals (go_wp2_with fail; go_meet; exact ⟨rfl, (HBd.out.trans (hb4.trans hb5)), hc5, hf5⟩)
  case rest =>
  obtain ⟨rfl, hb, hc2, hf2⟩ := hcut
  clear hc hf r0 r1 HB HBd HC
  have hc := hc2
  have hf := hf2
  clear hc2 hf2
  have r0 := hb.cell w.heap.size (by have := HS.out; omega) (by omega)
  have r1 := hb.cell (w.heap.size + 1) (by have := HS.out; omega) (by omega)
  have HB := Lib.hid hb
  clear hb
  go_wp2_with fail
  refine (HM.out _ _ _ _ hc hf).mono ?_; clear hc hf r0 r1; rintro e w5 ⟨rfl, hb2, hc, hf⟩
  have hb := HB.out.trans hb2
  clear HB hb2
  have r0 := hb.cell w.heap.size (by have := HS.out; omega) (by omega)
  have r1 := hb.cell (w.heap.size + 1) (by have := HS.out; omega) (by omega)
  have HB := Lib.hid hb
  clear hb
  go_wp2_with fail
  refine (HM.out _ _ _ _ hc hf).mono ?_; clear hc hf r0 r1; rintro e w6 ⟨rfl, hb2, hc, hf⟩
  have hb := HB.out.trans hb2
  clear HB hb2
  have r0 := hb.cell w.heap.size (by have := HS.out; omega) (by omega)
  have r1 := hb.cell (w.heap.size + 1) (by have := HS.out; omega) (by omega)
  have HB := Lib.hid hb
  clear hb
  go_wp2_with fail
  have HBd := Lib.hid (HB.out.drew)
  have HC := Lib.hid (And.intro (show w6.drew.cell? ⟨w.heap.size + 1 + 1 + 1, 0, none⟩ = _ from hc) (show w6.drew.frozen? ⟨w.heap.size + 1 + 1 + 1, 0, none⟩ = _ from hf))
  go_cut [12] (fun s wx => MeetR (w.heap.size + 1 + 1 + 1) (addV (addV (mulV m1 x) (mulV m3 y)) m5) (kE (kE (kE (kE (kE (kE (kE (kE (0) (mulE m0 x)) (mulE m2 y)) (addE (mulV m0 x) (mulV m2 y))) (addE (addV (mulV m0 x) (mulV m2 y)) m4)) (mulE m1 x)) (mulE m3 y)) (addE (mulV m1 x) (mulV m3 y))) (addE (addV (mulV m1 x) (mulV m3 y)) m5)) w1 s wx)
  case first =>
    go_region_with (go_at_call 26; first | (refine (HA.out _ _ _ _ hc4 hf4).mono ?_; rintro e w5 ⟨rfl, hb5, hc5, hf5⟩) | (refine (HA.out _ _ _ _ HC.out.1 HC.out.2).mono ?_; rintro e w4 ⟨rfl, hb4, hc4, hf4⟩; have q0 := (HBd.out.trans hb4).cell w.heap.size (by have := HS.out; omega) (by omega)))
    all_goals (go_wp2_with fail; go_meet; exact ⟨rfl, (HBd.out.trans (hb4.trans hb5)), hc5, hf5⟩)
  case rest =>
  obtain ⟨rfl, hb, hc2, hf2⟩ := hcut
  clear hc hf r0 r1 HB HBd HC
  have hc := hc2
  have hf := hf2
  clear hc2 hf2
  have r0 := hb.cell w.heap.size (by have := HS.out; omega) (by omega)
  have r1 := hb.cell (w.heap.size + 1) (by have := HS.out; omega) (by omega)
  have HB := Lib.hid hb
  clear hb
  rw [HEE.out] at hc
  have t0 : wc.cell? ⟨w.heap.size + 1 + 1, 0, none⟩ = some (.int .i64 0) := (HB.out.cell _ (by have := HS.out; omega) (by omega) 0).trans HT.out.1
  have t1 : wc.cell? ⟨w.heap.size + 1 + 1, 1, none⟩ = some (.int .i64 0) := (HB.out.cell _ (by have := HS.out; omega) (by omega) 1).trans HT.out.2.1
  have tf : ∀ o, wc.frozen? ⟨w.heap.size + 1 + 1, o, none⟩ = false := fun o => (HB.out.frozen _ (by have := HS.out; omega) (by omega) o).trans (HT.out.2.2 o)
  have hBel : Below w.heap.size w wc := HB.out.below HBel.out (by omega) HBel.out.size
  have HBn := Lib.hid hBel
  clear HEE HB r0 r1 hBel HBel HT HS b0 b1
  by_cases h : E = 0
  · subst h
    go_wp2_with fail
    obtain ⟨p0, p1⟩ := pt_put t0 t1 (.int .i64 (addV (addV (mulV m0 x) (mulV m2 y)) m4)) (.int .i64 (addV (addV (mulV m1 x) (mulV m3 y)) m5))
    refine bodyPost_ret (v := .tuple #[.agg #[.int .i64 (addV (addV (mulV m0 x) (mulV m2 y)) m4), .int .i64 (addV (addV (mulV m1 x) (mulV m3 y)) m5)], .int .i64 0]) (by simp [results, Try.results9, go_sem, p0, p1]) rfl ⟨by simp [sel], ?_⟩
    exact (HBn.out.setCell (by simp <;> omega) _).setCell (by simp <;> omega) _
  · have hE : (E != 0) = true := by simp [h]
    have HN := Lib.hid h
    clear h
    go_wp2_with fail
    go_region
    all_goals go_wp2_with fail
    all_goals obtain ⟨p0, p1⟩ := pt_put t0 t1 (.int .i64 0) (.int .i64 0)
    all_goals refine bodyPost_ret (v := .tuple #[.agg #[.int .i64 0, .int .i64 0], .int .i64 E]) (by simp [results, Try.results9, go_sem, p0, p1]) rfl ⟨by simp [sel, HN.out], ?_⟩
    all_goals exact ((HBn.out.setCell (by simp <;> omega) _).setCell (by simp <;> omega) _).drew
theorem matDelta_at (m0 m1 m2 m3 m4 m5 x y : Int) (w : World) :
    Calls Try.prog 10 #[.agg #[.int .i64 m0, .int .i64 m1, .int .i64 m2, .int .i64 m3, .int .i64 m4, .int .i64 m5], .agg #[.int .i64 x, .int .i64 y]] w (PtE (linV m0 x m2 y) (linV m1 x m3 y) (dltE m0 m1 m2 m3 x y) w) := by
  have hK := fun (b : Nat) (w : World) => wDelta_at b m0 m1 m2 m3 m4 m5 x y 0 w
  have hO := fun (w : World) => outP_at (linV m0 x m2 y) (linV m1 x m3 y) (dltE m0 m1 m2 m3 x y) w
  simp only [zero_kE] at hK
  generalize linV m0 x m2 y = X at hK hO ⊢
  generalize linV m1 x m3 y = Y at hK hO ⊢
  generalize dltE m0 m1 m2 m3 x y = E at hK hO ⊢
  unfold KpP at hK
  unfold PtE at hO ⊢
  have HK := Lib.hid hK
  have HO := Lib.hid hO
  clear hK hO
  go_enter Try.func10, Try.ntmps10
  go_wp2_with fail
  refine (HK.out (w.heap.size + 1 + 1 + 1) _ (by simp [go_sem]) (by simp [go_sem])).mono ?_; rintro e w1 ⟨rfl, hb1, hc1, hf1⟩
  have hl1 := World.block_lt_of_cell? w1 _ hc1
  simp only [] at hl1
  have HB1 := Lib.hid hb1
  clear hb1
  go_wp2_with fail
  refine (HO.out _).mono ?_; rintro e w3 ⟨rfl, hb3⟩
  have t0 : w3.cell? ⟨w.heap.size + 1 + 1, 0, none⟩ = some (.int .i64 0) := later_cell (by simp [go_sem]) HB1.out (by omega) hb3
  have t1 : w3.cell? ⟨w.heap.size + 1 + 1, 1, none⟩ = some (.int .i64 0) := later_cell (by simp [go_sem]) HB1.out (by omega) hb3
  have tf : ∀ o, w3.frozen? ⟨w.heap.size + 1 + 1, o, none⟩ = false := later_frozen (by simp) (by simp [go_sem]) HB1.out (by omega) hb3
  have hB : Below w.heap.size w w3 := ((HB1.out.below (((((Below.refl _ w).alloc (by simp) _).alloc (by simp <;> omega) _).alloc (by simp <;> omega) _).alloc (by simp <;> omega) _) (by omega) (by simp <;> omega)).alloc (by omega) _).trans (hb3.mono (by simp <;> omega))
  have HB := Lib.hid hB
  clear hb3 hB HB1 hc1 hf1
  go_wp2_with fail
  obtain ⟨p0, p1⟩ := pt_put t0 t1 (.int .i64 (sel E X)) (.int .i64 (sel E Y))
  refine bodyPost_ret (v := .tuple #[.agg #[.int .i64 (sel E X), .int .i64 (sel E Y)], .int .i64 E]) (by simp [results, Try.results10, go_sem, p0, p1]) rfl ⟨rfl, ?_⟩
  exact (HB.out.setCell (by simp <;> omega) _).setCell (by simp <;> omega) _
end Go.Proofs.Ytlgjlnbdfpncmaa
