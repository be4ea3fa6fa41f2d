/-
  The contracts of Scale (mat and ref01).
-/
import Derived.Test.YtlgjlnbdfpncmaaMatSix
import Derived.Test.YtlgjlnbdfpncmaaFixRoot
namespace Go.Proofs.Ytlgjlnbdfpncmaa
open Go.RowKit
open Fx
/-- a number and an error -/
def IntE (V E : Int) (w : World) (e : Ending) (w' : World) : Prop := e = .returned (.tuple #[.int .i64 V, .int .i64 E]) ∧ Below w.heap.size w w'
theorem ret_pair {a b c d : Int} (h : a = c) (h2 : b = d) : Ending.returned (.tuple #[.int .i64 a, .int .i64 b]) = .returned (.tuple #[.int .i64 c, .int .i64 d]) := by rw [h, h2]
theorem sel_self {S V : Int} (h : S ≠ 0 → V = 0) : V = sel S V := by
  unfold sel; split
  · rfl
  · rename_i hs; exact h hs
theorem sqrt_both (a : Int) : ∃ V E : Int, (E ≠ 0 → V = 0) ∧ (∀ w, Calls Try.prog 48 #[.int .i64 a] w fun e w' => e = .returned (.tuple #[.int .i64 V, .int .i64 E]) ∧ w = w') ∧
    (∀ w, Calls Try.prog 37 #[.int .i64 a] w fun e w' => e = .returned (.tuple #[.int .i64 V, .int .i64 E]) ∧ w = w') := by
  by_cases h : fits a = false ∨ a < 0
  · exact ⟨0, 11, fun _ => rfl, fun w => fixSqrt_no a w h, fun w => refSqrt_no a w h⟩
  · have h1 : fits a = true := by cases hf : fits a; exact absurd (Or.inl hf) h; rfl
    have h0 : 0 ≤ a := by omega
    obtain ⟨r, hr, r1, r2⟩ := root_exists (a * 65536).toNat
    have e : ((a * 65536).toNat : Int) = a * 65536 := by omega
    rw [e] at r1 r2
    exact ⟨_, 0, fun h => absurd rfl h, fun w => fixSqrt_yes a r w h1 h0 hr r1 r2, fun w => refSqrt_yes a r w h1 h0 hr r1 r2⟩
theorem wRoot_at (b : Nat) (a V F E : Int) (w : World) (hs : ∀ w, Calls Try.prog 48 #[.int .i64 a] w fun e w' => e = .returned (.tuple #[.int .i64 V, .int .i64 F]) ∧ w = w') (hc : w.cell? ⟨b, 0, none⟩ = some (.int .i64 E)) (hf : w.frozen? ⟨b, 0, none⟩ = false) :
    Calls Try.prog 35 #[.pointer (some ⟨b, 0, none⟩), .int .i64 a] w (Kp b V (kE E F) w) := by
  have HK := Lib.hid (fun (n e : Int) (w : World) => wKeep_at b n e E w)
  have HS := Lib.hid hs
  clear hs
  unfold Kp at HK ⊢
  go_enter Try.func35, Try.ntmps35
  go_wp2_with fail
  refine (HS.out _).mono ?_; rintro e w' ⟨rfl, rfl⟩
  go_wp2_with fail
  refine (HK.out _ _ _ (by simpa using hc) (by simpa using hf)).mono ?_; rintro e w2 ⟨rfl, hb, hc2, hf2⟩
  go_wp2_with fail
  go_ret
  exact ⟨rfl, hb, hc2, hf2⟩
theorem outI_at (V E : Int) (w : World) : Calls Try.prog 36 #[.agg #[.int .i64 E], .int .i64 V] w (IntE (sel E V) E w) := by
  by_cases h : E = 0
  · subst h
    unfold IntE sel
    simp only [if_true]
    go_enter Try.func36, Try.ntmps36
    go_wp2_with fail
    go_ret2
    exact ⟨rfl, (Below.refl _ _).alloc (by simp) _⟩
  · have hE : (E != 0) = true := by simp [h]
    unfold IntE sel
    simp only [if_neg h]
    clear h
    go_enter Try.func36, Try.ntmps36
    go_wp2_with fail
    go_region
    all_goals go_wp2_with fail
    all_goals go_ret2
    all_goals exact ⟨rfl, ((Below.refl _ _).alloc (by simp) _).drew⟩
theorem matScale_at (m0 m1 m2 m3 m4 m5 V S : Int) (w : World) (hs : ∀ w, Calls Try.prog 48 #[.int .i64 (if crsV m0 m3 m1 m2 < 0 then subV 0 (crsV m0 m3 m1 m2) else crsV m0 m3 m1 m2)] w fun e w' => e = .returned (.tuple #[.int .i64 V, .int .i64 S]) ∧ w = w') :
    Calls Try.prog 19 #[.agg #[.int .i64 m0, .int .i64 m1, .int .i64 m2, .int .i64 m3, .int .i64 m4, .int .i64 m5]] w
      (IntE (sel (kE (kE (crsE m0 m3 m1 m2) (if crsV m0 m3 m1 m2 < 0 then subE 0 (crsV m0 m3 m1 m2) else 0)) S) V) (kE (kE (crsE m0 m3 m1 m2) (if crsV m0 m3 m1 m2 < 0 then subE 0 (crsV m0 m3 m1 m2) else 0)) S) w) := by
  have h1 := fun (v : World) => wDet_at (w.heap.size + 1) m0 m1 m2 m3 m4 m5 0 v
  simp only [zero_kE] at h1
  generalize crsV m0 m3 m1 m2 = D at h1 hs ⊢
  generalize crsE m0 m3 m1 m2 = F at h1 ⊢
  have HS := Lib.hid (fun (E : Int) (v : World) => wSub_at (w.heap.size + 1) 0 D E v)
  have HO := Lib.hid (fun (E : Int) (v : World) => outI_at V E v)
  unfold Kp at h1 HS
  unfold IntE at HO ⊢
  have H1 := Lib.hid h1
  clear h1
  by_cases hD : D < 0
  · rw [if_pos hD] at hs
    rw [if_pos hD]
    have HR := Lib.hid (fun (E : Int) (v : World) => wRoot_at (w.heap.size + 1) _ V S E v hs)
    unfold Kp at HR
    clear hs
    go_enter Try.func19, Try.ntmps19
    go_wp2_with fail
    refine (H1.out _ (by simp [go_sem]) (by simp [go_sem])).mono ?_; rintro e w1 ⟨rfl, hb1, hc1, hf1⟩
    have HB1 := Lib.hid (hb1.below (((Below.refl w.heap.size w).alloc (by simp) _).alloc (by simp <;> omega) _) (by omega) (by simp <;> omega))
    clear hb1
    go_wp2_with fail
    refine (HS.out _ _ hc1 hf1).mono ?_; rintro e w2 ⟨rfl, hb2, hc2, hf2⟩
    have HB2 := Lib.hid (hb2.below HB1.out (by omega) HB1.out.size)
    clear hb2 hc1 hf1
    go_wp2_with fail
    refine (HR.out _ _ hc2 hf2).mono ?_; rintro e w3 ⟨rfl, hb3, hc3, hf3⟩
    have HB3 := Lib.hid (hb3.below HB2.out (by omega) HB2.out.size)
    clear hb3 hc2 hf2
    go_wp2_with fail
    refine (HO.out _ _).mono ?_; rintro e w4 ⟨rfl, hb4⟩
    have HB4 := Lib.hid (mthen HB3.out hb4)
    clear hb4
    go_wp2_with fail
    go_ret2
    exact ⟨rfl, HB4.out⟩
  · rw [if_neg hD] at hs
    rw [if_neg hD, kE_zero]
    have HR := Lib.hid (fun (E : Int) (v : World) => wRoot_at (w.heap.size + 1) _ V S E v hs)
    unfold Kp at HR
    clear hs
    go_enter Try.func19, Try.ntmps19
    go_wp2_with fail
    refine (H1.out _ (by simp [go_sem]) (by simp [go_sem])).mono ?_; rintro e w1 ⟨rfl, hb1, hc1, hf1⟩
    have HB1 := Lib.hid (hb1.below (((Below.refl w.heap.size w).alloc (by simp) _).alloc (by simp <;> omega) _) (by omega) (by simp <;> omega))
    clear hb1
    go_wp2_with fail
    refine (HR.out _ _ hc1 hf1).mono ?_; rintro e w3 ⟨rfl, hb3, hc3, hf3⟩
    have HB3 := Lib.hid (hb3.below HB1.out (by omega) HB1.out.size)
    clear hb3 hc1 hf1
    go_wp2_with fail
    refine (HO.out _ _).mono ?_; rintro e w4 ⟨rfl, hb4⟩
    have HB4 := Lib.hid (mthen HB3.out hb4)
    clear hb4
    go_wp2_with fail
    go_ret2
    exact ⟨rfl, HB4.out⟩
theorem refScale_at (m0 m1 m2 m3 m4 m5 V S : Int) (w : World) (hz : S ≠ 0 → V = 0) (hs : ∀ w, Calls Try.prog 37 #[.int .i64 (if crsV m0 m3 m1 m2 < 0 then subV 0 (crsV m0 m3 m1 m2) else crsV m0 m3 m1 m2)] w fun e w' => e = .returned (.tuple #[.int .i64 V, .int .i64 S]) ∧ w = w') :
    Calls Try.prog 20 #[.agg #[.int .i64 m0, .int .i64 m1, .int .i64 m2, .int .i64 m3, .int .i64 m4, .int .i64 m5]] w
      (IntE (sel (kE (kE (crsE m0 m3 m1 m2) (if crsV m0 m3 m1 m2 < 0 then subE 0 (crsV m0 m3 m1 m2) else 0)) S) V) (kE (kE (crsE m0 m3 m1 m2) (if crsV m0 m3 m1 m2 < 0 then subE 0 (crsV m0 m3 m1 m2) else 0)) S) w) := by
  have HM := Lib.hid (fun (a c E : Int) (v : World) => sMul_at (w.heap.size + 1) a c E v)
  have HS := Lib.hid (fun (a c E : Int) (v : World) => sSub_at (w.heap.size + 1) a c E v)
  obtain ⟨D, hD⟩ : ∃ D, subV (mulV m0 m3) (mulV m1 m2) = D := ⟨_, rfl⟩
  obtain ⟨F, hF⟩ : ∃ F, kE (kE (kE 0 (mulE m0 m3)) (mulE m1 m2)) (subE (mulV m0 m3) (mulV m1 m2)) = F := ⟨_, rfl⟩
  have e1 : crsV m0 m3 m1 m2 = D := hD
  have e2 : crsE m0 m3 m1 m2 = F := by rw [← hF]; simp only [crsE, kE_assoc, zero_kE]
  rw [e1] at hs
  rw [e1, e2]
  obtain ⟨Q, hQ⟩ : ∃ Q, kE (kE F (if D < 0 then subE 0 D else 0)) S = Q := ⟨_, rfl⟩
  obtain ⟨P, hP⟩ : ∃ P, sel Q V = P := ⟨_, rfl⟩
  rw [hQ, hP]
  have HQ1 := Lib.hid hQ
  have HP1 := Lib.hid hP
  clear hQ hP
  have HD := Lib.hid hD
  have HF := Lib.hid hF
  have HZ := Lib.hid hz
  have HQ := Lib.hid hs
  clear hD hF e1 e2 hz hs
  unfold Kp at HM HS
  unfold IntE
  go_enter Try.func20, Try.ntmps20
  go_wp2_with fail
  refine (HM.out _ _ 0 _ (by simp [go_sem]) (by simp [go_sem])).mono ?_; rintro e w1 ⟨rfl, hb1, hc1, hf1⟩
  have r1 := hb1.cell w.heap.size (by simp <;> omega) (by omega)
  have hs1 : w.heap.size < w1.heap.size := by have := hb1.size; simp at this; omega
  have HB1 := Lib.hid (hb1.below (((Below.refl w.heap.size w).alloc (by simp) _).alloc (by simp <;> omega) _) (by omega) (by simp <;> omega))
  clear hb1
  go_wp2_with fail
  refine (HM.out _ _ _ _ hc1 hf1).mono ?_; rintro e w2 ⟨rfl, hb2, hc2, hf2⟩
  have HB2 := Lib.hid (hb2.below HB1.out (by omega) HB1.out.size)
  clear hb2 hc1 hf1
  go_wp2_with fail
  refine (HS.out _ _ _ _ hc2 hf2).mono ?_; rintro e w3 ⟨rfl, hb3, hc3, hf3⟩
  have HB3 := Lib.hid (hb3.below HB2.out (by omega) HB2.out.size)
  clear hb3 hc2 hf2 r1
  rw [HF.out] at hc3
  rw [HD.out]
  by_cases hF : F = 0
  · subst hF
    by_cases hD : D < 0
    · rw [if_pos hD] at HQ
      go_wp2_with fail
      refine (HS.out _ _ _ _ hc3 hf3).mono ?_; rintro e w4 ⟨rfl, hb4, hc4, hf4⟩
      have HB4 := Lib.hid (hb4.below HB3.out (by omega) HB3.out.size)
      clear hb4 hc3 hf3
      rw [zero_kE] at hc4
      by_cases hG : subE 0 D = 0
      · rw [hG] at hc4
        have HG := Lib.hid hG
        have HDn := Lib.hid hD
        clear hG
        go_wp2_with fail
        refine (HQ.out _).mono ?_; rintro e w5 ⟨rfl, rfl⟩
        go_wp2_with fail
        go_ret2
        have hq : S = Q := by rw [← HQ1.out, if_pos HDn.out, HG.out, zero_kE, zero_kE]
        exact ⟨ret_pair (by rw [← HP1.out, ← hq]; exact sel_self HZ.out) hq, HB4.out⟩
      · have hG' : (subE 0 D != 0) = true := by simp [hG]
        have HG := Lib.hid hG
        have HDn := Lib.hid hD
        clear hG
        go_wp2_with fail
        go_quiet (fail)
        go_wp2_with fail
        go_ret2
        have hq : subE 0 D = Q := by rw [← HQ1.out, if_pos HDn.out, zero_kE, kE_first HG.out]
        exact ⟨ret_pair (by rw [← HP1.out, ← hq]; simp [sel, HG.out]) hq, HB4.out.trans ⟨rfl, rfl, rfl, Nat.le_refl _, fun _ _ => rfl⟩⟩
    · rw [if_neg hD] at HQ
      have HDn : Hid (¬ D < 0) := hD
      go_wp2_with fail
      refine (HQ.out _).mono ?_; rintro e w5 ⟨rfl, rfl⟩
      go_wp2_with fail
      go_ret2
      have hq : S = Q := by rw [← HQ1.out, if_neg (by have := HDn.out; omega), zero_kE, zero_kE]
      exact ⟨ret_pair (by rw [← HP1.out, ← hq]; exact sel_self HZ.out) hq, HB3.out⟩
  · have hF' : (F != 0) = true := by simp [hF]
    have hF2 : (F == 0) = false := by simp [hF]
    have HN := Lib.hid hF
    clear hF
    go_wp2_with fail
    go_quiet (fail)
    go_wp2_with fail
    go_ret2
    have hq : F = Q := by rw [← HQ1.out, kE_first HN.out, kE_first HN.out]
    exact ⟨ret_pair (by rw [← HP1.out, ← hq]; simp [sel, HN.out]) hq, HB3.out.trans ⟨rfl, rfl, rfl, Nat.le_refl _, fun _ _ => rfl⟩⟩
end Go.Proofs.Ytlgjlnbdfpncmaa
