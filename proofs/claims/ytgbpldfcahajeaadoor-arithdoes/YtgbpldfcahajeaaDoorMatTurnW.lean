/-
  The contracts of Rotate (mat and ref01), and the walk of the law MatTurns.
-/
import Derived.Test.YtgbpldfcahajeaaDoorMatSin
import Derived.Test.YtgbpldfcahajeaaDoorMatInv
import Derived.Test.YtgbpldfcahajeaaDoorFixWhole
namespace Go.Proofs.YtgbpldfcahajeaaDoor
open Go.RowKit
open Fx
/-- what turns by whole degrees, as it is answered -/
def RotY (g : Int) (w : World) (e : Ending) (w' : World) : Prop :=
  e = .returned (.tuple #[.agg #[.int .i64 (sinZ (g + 90)), .int .i64 (sinZ g), .int .i64 (-(sinZ g)), .int .i64 (sinZ (g + 90)), .int .i64 0, .int .i64 0], .int .i64 0]) ∧ Below w.heap.size w w'
def RotN (w : World) (e : Ending) (w' : World) : Prop :=
  e = .returned (.tuple #[.agg #[.int .i64 0, .int .i64 0, .int .i64 0, .int .i64 0, .int .i64 0, .int .i64 0], .int .i64 11]) ∧ Below w.heap.size w w'
theorem neg_bd {v : Int} (h : -65536 ≤ v ∧ v ≤ 65536) : -65536 ≤ v ∧ v ≤ 65536 := h
theorem matRotate_no (deg : Int) (h : fits deg = false) (w : World) : Calls Tryd.prog 96 #[.int .i64 deg] w (RotN w) := by
  have H := Lib.hid (fun w => fixFits_no deg w h)
  unfold RotN
  clear h
  go_enter Tryd.func96, Tryd.ntmps96
  go_wp2_with fail
  refine (H.out _).mono ?_; rintro e w' ⟨rfl, rfl⟩
  go_wp2_with fail
  refine bodyPost_ret (v := .tuple #[.agg #[.int .i64 0, .int .i64 0, .int .i64 0, .int .i64 0, .int .i64 0, .int .i64 0], .int .i64 11]) (by simp [results, Tryd.results96, go_sem]) rfl ⟨rfl, ?_⟩
  exact (Below.refl _ _).alloc (Nat.le_refl _) _
theorem round_whole (t q : Int) (h0 : 0 ≤ t) (h1 : t < 23592960) (hq : (t + 32768) / 65536 = q) (w : World) :
    Calls Tryd.prog 45 #[.int .i64 t] w fun e w' => e = .returned (.tuple #[.int .i64 (q * 65536), .int .i64 0]) ∧ w = w' := by
  have h := fixRound_any t w
  have f1 : fits t = true := (fits_iff t).2 ⟨by omega, by omega⟩
  have e1 : flo (t + 32768) = q * 65536 := by unfold flo; omega
  have f2 : fits (q * 65536) = true := (fits_iff _).2 ⟨by omega, by omega⟩
  unfold rouV rouE at h
  rw [if_pos f1, if_pos f1, e1, outV_yes f2, outE_yes f2] at h
  exact h
set_option maxRecDepth 100000 in
theorem matRotate_yes (deg : Int) (h : fits deg = true) (w : World) (ht : SinT w) : Calls Tryd.prog 96 #[.int .i64 deg] w (RotY ((deg + 32768) / 65536) w) := by
  obtain ⟨d1, d2⟩ := (fits_iff deg).1 h
  have HF := Lib.hid (fun w => fixFits_yes deg w h)
  obtain ⟨t, htt⟩ : ∃ t, deg % 23592960 = t := ⟨_, rfl⟩
  have t0 : 0 ≤ t := by omega
  have t1 : t < 23592960 := by omega
  obtain ⟨q, hq⟩ : ∃ q : Nat, (t + 32768) / 65536 = (q : Int) := ⟨((t + 32768) / 65536).toNat, by omega⟩
  have hq1 : q ≤ 360 := by omega
  have HR := Lib.hid (fun w => round_whole t q t0 t1 hq w)
  have eg : ∃ k : Int, (deg + 32768) / 65536 = (q : Int) + 360 * k := ⟨deg / 23592960, by omega⟩
  obtain ⟨k, eg⟩ := eg
  have es : sinZ ((deg + 32768) / 65536) = sinZ q := by rw [eg, sinZ_turn]
  have ec : sinZ ((deg + 32768) / 65536 + 90) = sinZ (q + 90) := by rw [eg, show (q : Int) + 360 * k + 90 = ((q : Int) + 90) + 360 * k by omega, sinZ_turn]
  unfold RotY
  rw [es, ec]
  have hs := fun w (ht : SinT w) => matSine_at q (by omega) w ht
  have hc := fun w (ht : SinT w) => matSine_at (q + 90) (by omega) w ht
  have e90 : ((q + 90 : Nat) : Int) = (q : Int) + 90 := by omega
  rw [e90] at hc
  obtain ⟨b1, b2⟩ := sinZ_bd (q : Int)
  generalize sinZ ((q : Int) + 90) = c at hc ⊢
  generalize sinZ (q : Int) = s at hs b1 b2 ⊢
  have HS := Lib.hid hs
  have HC := Lib.hid hc
  have HT := Lib.hid (ht.below ((Below.refl _ w).alloc (Nat.le_refl _) (Obj.cells #[.int .i64 0, .int .i64 0, .int .i64 0, .int .i64 0, .int .i64 0, .int .i64 0] 79)))
  obtain ⟨m, hm⟩ : ∃ m, deg.tmod 23592960 = m := ⟨_, rfl⟩
  have hm' : 0 ≤ deg → deg % 23592960 = m := fun h => by rw [← hm]; exact (Int.tmod_eq_emod_of_nonneg h).symm
  have mb : -23592960 < m ∧ m < 23592960 := by
    have := tmod_bd deg 23592960 (by omega) 23592960 (by omega) (by omega)
    have h2 := tmod_lt deg 23592960 (by omega)
    rw [hm] at h2
    unfold absI at h2
    split at h2 <;> simp at h2 <;> omega
  have mt : m % 23592960 = t := by
    rw [← hm, ← htt]
    rcases Int.lt_or_le deg 0 with hn | hn
    · have := Int.tmod_eq_emod_of_nonneg (a := -deg) (b := 23592960) (by omega)
      rw [Int.neg_tmod] at this
      omega
    · rw [Int.tmod_eq_emod_of_nonneg hn]; omega
  obtain ⟨m1, m2⟩ := mb
  have mt2 : (m + 23592960) % 23592960 = t := by omega
  clear hs hc e90 es ec eg htt hq h ht
  by_cases hz : 0 ≤ deg
  · have hmm := hm' hz
    clear hm'
    go_enter Tryd.func96, Tryd.ntmps96
    go_wp2_with fail
    refine (HF.out _).mono ?_; rintro e w' ⟨rfl, rfl⟩
    go_wp2_with fail
    refine (HR.out _).mono ?_; rintro e w' ⟨rfl, rfl⟩
    go_wp2_with fail
    refine (HS.out _ HT.out).mono ?_; rintro e w' ⟨rfl, rfl⟩
    go_wp2_with fail
    refine (HC.out _ HT.out).mono ?_; rintro e w' ⟨rfl, rfl⟩
    go_wp2_with fail
    refine bodyPost_ret (v := .tuple #[.agg #[.int .i64 c, .int .i64 s, .int .i64 (-s), .int .i64 c, .int .i64 0, .int .i64 0], .int .i64 0]) (by simp [results, Tryd.results96, go_sem]) rfl ⟨rfl, ?_⟩
    exact (Below.refl _ _).alloc (Nat.le_refl _) _
  · clear hm'
    go_enter Tryd.func96, Tryd.ntmps96
    go_wp2_with fail
    refine (HF.out _).mono ?_; rintro e w' ⟨rfl, rfl⟩
    go_wp2_with fail
    refine (HR.out _).mono ?_; rintro e w' ⟨rfl, rfl⟩
    go_wp2_with fail
    refine (HS.out _ HT.out).mono ?_; rintro e w' ⟨rfl, rfl⟩
    go_wp2_with fail
    refine (HC.out _ HT.out).mono ?_; rintro e w' ⟨rfl, rfl⟩
    go_wp2_with fail
    refine bodyPost_ret (v := .tuple #[.agg #[.int .i64 c, .int .i64 s, .int .i64 (-s), .int .i64 c, .int .i64 0, .int .i64 0], .int .i64 0]) (by simp [results, Tryd.results96, go_sem]) rfl ⟨rfl, ?_⟩
    exact (Below.refl _ _).alloc (Nat.le_refl _) _
theorem refRotate_no (deg : Int) (h : fits deg = false) (w : World) : Calls Tryd.prog 75 #[.int .i64 deg] w (RotN w) := by
  have H := Lib.hid (fun w => refFits_no deg w h)
  unfold RotN
  clear h
  go_enter Tryd.func75, Tryd.ntmps75
  go_wp2_with fail
  refine (H.out _).mono ?_; rintro e w' ⟨rfl, rfl⟩
  go_wp2_with fail
  refine bodyPost_ret (v := .tuple #[.agg #[.int .i64 0, .int .i64 0, .int .i64 0, .int .i64 0, .int .i64 0, .int .i64 0], .int .i64 11]) (by simp [results, Tryd.results75, go_sem]) rfl ⟨rfl, ?_⟩
  exact (Below.refl _ _).alloc (Nat.le_refl _) _
set_option maxRecDepth 100000 in
theorem refRotate_yes (deg : Int) (h : fits deg = true) (w : World) : Calls Tryd.prog 75 #[.int .i64 deg] w (RotY ((deg + 32768) / 65536) w) := by
  obtain ⟨d1, d2⟩ := (fits_iff deg).1 h
  have HF := Lib.hid (fun w => refFits_yes deg w h)
  have hB := fun w => below_any deg w h
  obtain ⟨g, hg⟩ : ∃ g, (deg + 32768) / 65536 = g := ⟨_, rfl⟩
  obtain ⟨f, hf⟩ : ∃ f, flo deg = f := ⟨_, rfl⟩
  rw [hg]
  rw [hf] at hB
  have f1 : deg - 65535 ≤ f ∧ f ≤ deg ∧ f % 65536 = 0 := by rw [← hf]; exact flo_bd deg
  obtain ⟨f1, f2, f3⟩ := f1
  have hs := refSine_at g (by omega) (by omega)
  have hc := refSine_at (g + 90) (by omega) (by omega)
  unfold SineR at hs hc
  unfold RotY
  obtain ⟨b1, b2⟩ := sinZ_bd g
  generalize sinZ (g + 90) = c at hc ⊢
  generalize sinZ g = s at hs b1 b2 ⊢
  have HS := Lib.hid hs
  have HC := Lib.hid hc
  have HB := Lib.hid hB
  clear hs hc hB hf h
  by_cases ht : 32768 ≤ deg - f
  · have e1 : (f + 65536).tdiv 65536 = g := by
      rw [show f + 65536 = g * 65536 by omega]; exact Int.mul_tdiv_cancel _ (by omega)
    have e2 : (f + 65536) / 65536 = g := by omega
    clear hg f3
    go_enter Tryd.func75, Tryd.ntmps75
    go_wp2_with fail
    refine (HF.out _).mono ?_; rintro e w' ⟨rfl, rfl⟩
    go_wp2_with fail
    refine (HB.out _).mono ?_; rintro e w' ⟨rfl, rfl⟩
    go_wp2_with fail
    refine (HC.out _).mono ?_; rintro e w' ⟨rfl, rfl⟩
    go_wp2_with fail
    refine (HS.out _).mono ?_; rintro e w' ⟨rfl, rfl⟩
    go_wp2_with fail
    refine (HS.out _).mono ?_; rintro e w' ⟨rfl, rfl⟩
    go_wp2_with fail
    refine (HC.out _).mono ?_; rintro e w' ⟨rfl, rfl⟩
    go_wp2_with fail
    refine bodyPost_ret (v := .tuple #[.agg #[.int .i64 c, .int .i64 s, .int .i64 (-s), .int .i64 c, .int .i64 0, .int .i64 0], .int .i64 0]) (by simp [results, Tryd.results75, go_sem]) rfl ⟨rfl, ?_⟩
    exact (Below.refl _ _).alloc (Nat.le_refl _) _
  · have e1 : f.tdiv 65536 = g := by
      rw [show f = g * 65536 by omega]; exact Int.mul_tdiv_cancel _ (by omega)
    have e2 : f / 65536 = g := by omega
    clear hg f3
    go_enter Tryd.func75, Tryd.ntmps75
    go_wp2_with fail
    refine (HF.out _).mono ?_; rintro e w' ⟨rfl, rfl⟩
    go_wp2_with fail
    refine (HB.out _).mono ?_; rintro e w' ⟨rfl, rfl⟩
    go_wp2_with fail
    refine (HC.out _).mono ?_; rintro e w' ⟨rfl, rfl⟩
    go_wp2_with fail
    refine (HS.out _).mono ?_; rintro e w' ⟨rfl, rfl⟩
    go_wp2_with fail
    refine (HS.out _).mono ?_; rintro e w' ⟨rfl, rfl⟩
    go_wp2_with fail
    refine (HC.out _).mono ?_; rintro e w' ⟨rfl, rfl⟩
    go_wp2_with fail
    refine bodyPost_ret (v := .tuple #[.agg #[.int .i64 c, .int .i64 s, .int .i64 (-s), .int .i64 c, .int .i64 0, .int .i64 0], .int .i64 0]) (by simp [results, Tryd.results75, go_sem]) rfl ⟨rfl, ?_⟩
    exact (Below.refl _ _).alloc (Nat.le_refl _) _
end Go.Proofs.YtgbpldfcahajeaaDoor
