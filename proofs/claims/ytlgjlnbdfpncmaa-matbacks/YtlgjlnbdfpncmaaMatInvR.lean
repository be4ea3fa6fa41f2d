/-
  The contract of ref01's Invert.
-/
import Derived.Test.YtlgjlnbdfpncmaaMatInv
namespace Go.Proofs.Ytlgjlnbdfpncmaa
open Go.RowKit
open Fx
set_option maxHeartbeats 4000000 in
theorem refInvert_at (m0 m1 m2 m3 m4 m5 : Int) (w : World) :
    Calls Try.prog 18 #[.agg #[.int .i64 m0, .int .i64 m1, .int .i64 m2, .int .i64 m3, .int .i64 m4, .int .i64 m5]] w (InvE m0 m1 m2 m3 m4 m5 w) := by
  have HM := Lib.hid (fun (a c E : Int) (v : World) => sMul_at (w.heap.size + 1 + 1) a c E v)
  have HS := Lib.hid (fun (a c E : Int) (v : World) => sSub_at (w.heap.size + 1 + 1) a c E v)
  have HD := Lib.hid (fun (a c E : Int) (v : World) => sDiv_at (w.heap.size + 1 + 1) a c E v)
  obtain ⟨D, hD⟩ : ∃ D, subV (mulV m0 m3) (mulV m1 m2) = D := ⟨_, rfl⟩
  obtain ⟨F, hF⟩ : ∃ F, kE (kE (kE 0 (mulE m0 m3)) (mulE m1 m2)) (subE (mulV m0 m3) (mulV m1 m2)) = F := ⟨_, rfl⟩
  have e1 : crsV m0 m3 m1 m2 = D := hD
  have e2 : crsE m0 m3 m1 m2 = F := by rw [← hF]; simp only [crsE, kE_assoc, zero_kE]
  have h18 : F = 0 → fits m3 = true := fun h => crsE_fits (e2.trans h)
  unfold InvE
  rw [e1, e2]
  obtain ⟨Q, hQ⟩ : ∃ Q, invE D F m0 m1 m2 m3 m4 m5 = Q := ⟨_, rfl⟩
  rw [hQ]
  have HDD := Lib.hid hD
  have HFF := Lib.hid hF
  have HQ := Lib.hid hQ
  have H18 := Lib.hid h18
  clear hD hF e1 e2 hQ h18
  unfold Kp at HM HS HD
  unfold MatE
  go_enter Try.func18, Try.ntmps18
  go_wp2_with fail
  refine (HM.out _ _ 0 _ (by simp [go_sem]) (by simp [go_sem])).mono ?_; rintro e w1 ⟨rfl, hb, hc, hf⟩
  have hA : R6 w1 w.heap.size m0 m1 m2 m3 m4 m5 := by
    refine R6.call ?_ hb (by omega)
    refine ⟨by simp <;> omega, fun o => by simp [go_sem], ?_, ?_, ?_, ?_, ?_, ?_⟩ <;> simp [go_sem]
  have hR : R6 w1 (w.heap.size + 1) 0 0 0 0 0 0 := by
    refine R6.call ?_ hb (by omega)
    refine ⟨by simp <;> omega, fun o => by simp [go_sem], ?_, ?_, ?_, ?_, ?_, ?_⟩ <;> simp [go_sem]
  have hB : Below w.heap.size w w1 := hb.below ((((Below.refl w.heap.size w).alloc (by simp) _).alloc (by simp <;> omega) _).alloc (by simp <;> omega) _) (by omega) (by simp <;> omega)
  have HA := Lib.hid hA
  have HR := Lib.hid hR
  have HB := Lib.hid hB
  clear hR hB hb
  obtain ⟨_, _, k0, k1, k2, k3, k4, k5⟩ := hA
  go_wp2_with fail
  refine (HM.out _ _ _ _ hc hf).mono ?_; clear hc hf k0 k1 k2 k3 k4 k5; rintro e w2 ⟨rfl, hb, hc, hf⟩
  have hA := HA.out.call hb (by omega)
  have hR := HR.out.call hb (by omega)
  have hB := hb.below HB.out (by omega) HB.out.size
  clear HR HB HA
  have HA := Lib.hid hA
  have HR := Lib.hid hR
  have HB := Lib.hid hB
  clear hR hB hb
  obtain ⟨_, _, k0, k1, k2, k3, k4, k5⟩ := hA
  go_wp2_with fail
  refine (HS.out _ _ _ _ hc hf).mono ?_; clear hc hf k0 k1 k2 k3 k4 k5; rintro e w3 ⟨rfl, hb, hc, hf⟩
  have hA := HA.out.call hb (by omega)
  have hR := HR.out.call hb (by omega)
  have hB := hb.below HB.out (by omega) HB.out.size
  clear HR HB HA
  have HA := Lib.hid hA
  have HR := Lib.hid hR
  have HB := Lib.hid hB
  clear hR hB hb
  obtain ⟨_, _, k0, k1, k2, k3, k4, k5⟩ := hA
  rw [HFF.out] at hc
  rw [HDD.out]
  have hl : w.heap.size + 1 + 1 < w3.heap.size := World.block_lt_of_cell? w3 _ hc
  by_cases hF : F = 0
  · subst hF
    by_cases hD : D = 0
    · have hD' : (D == 0) = true := by simp [hD]
      have HT := Lib.hid HR.out.cells
      obtain ⟨_, g, g0, g1, g2, g3, g4, g5⟩ := HR.out
      have hq : 18 = Q := by rw [← HQ.out, hD]; simp only [invE, zero_kE]; rw [divE_zero (H18.out rfl), kE_first (by omega)]
      have HQ2 := Lib.hid hq
      clear hD hq k0 k1 k2 k3 k4 k5
      go_wp2_with fail
      obtain ⟨q0, q1, q2, q3, q4, q5⟩ := m6_put HT.out (.int .i64 0) (.int .i64 0) (.int .i64 0) (.int .i64 0) (.int .i64 0) (.int .i64 0)
      refine bodyPost_ret (v := .tuple #[.agg #[.int .i64 0, .int .i64 0, .int .i64 0, .int .i64 0, .int .i64 0, .int .i64 0], .int .i64 18]) (by simp [results, Try.results18, go_sem, q0, q1, q2, q3, q4, q5]) rfl ⟨by rw [← HQ2.out]; simp [sel], ?_⟩
      exact (((((HB.out.setCell (by simp <;> omega) _).setCell (by simp <;> omega) _).setCell (by simp <;> omega) _).setCell (by simp <;> omega) _).setCell (by simp <;> omega) _).setCell (by simp <;> omega) _
    · have hD' : (D == 0) = false := by simp [hD]
      obtain ⟨E, hE⟩ : ∃ E, kE (kE (kE (kE (kE (kE (kE (kE (kE (kE (kE (kE (kE (kE (0) (divE m3 D)) (subE 0 m1)) (divE (subV 0 m1) D)) (subE 0 m2)) (divE (subV 0 m2) D)) (divE m0 D)) (mulE m2 m5)) (mulE m3 m4)) (subE (mulV m2 m5) (mulV m3 m4))) (divE (subV (mulV m2 m5) (mulV m3 m4)) D)) (mulE m1 m4)) (mulE m0 m5)) (subE (mulV m1 m4) (mulV m0 m5))) (divE (subV (mulV m1 m4) (mulV m0 m5)) D) = E := ⟨_, rfl⟩
      have hq : E = Q := by rw [← HQ.out, ← hE]; simp only [invE, crsE, crsV, kE_assoc, zero_kE]
      have HQ2 := Lib.hid hq
      have HE := Lib.hid hE
      have hneO : w.heap.size ≠ w3.heap.size := by omega
      have hneR : w.heap.size + 1 ≠ w3.heap.size := by omega
      have hneB : w3.heap.size ≠ w.heap.size + 1 + 1 := by omega
      have hput : ∀ (W : World) (i o : Nat) (v : Value), (W.setCell ⟨w3.heap.size, i, none⟩ v).cell? ⟨w.heap.size, o, none⟩ = W.cell? ⟨w.heap.size, o, none⟩ := fun W i o v => World.cell?_setCell_other _ _ _ _ (adr_ne2 _ _ _ _ (Ne.symm hneO))
      have hputR : ∀ (W : World) (i o : Nat) (v : Value), (W.setCell ⟨w3.heap.size, i, none⟩ v).cell? ⟨w.heap.size + 1, o, none⟩ = W.cell? ⟨w.heap.size + 1, o, none⟩ := fun W i o v => World.cell?_setCell_other _ _ _ _ (adr_ne2 _ _ _ _ (Ne.symm hneR))
      have hputB : ∀ (W : World) (i o : Nat) (v : Value), (W.setCell ⟨w3.heap.size, i, none⟩ v).cell? ⟨w.heap.size + 1 + 1, o, none⟩ = W.cell? ⟨w.heap.size + 1 + 1, o, none⟩ := fun W i o v => World.cell?_setCell_other _ _ _ _ (adr_ne2 _ _ _ _ hneB)
      have HNO := Lib.hid hneO
      have HNR := Lib.hid hneR
      have HNB := Lib.hid hneB
      have hl0 : w.heap.size < w3.heap.size := by omega
      clear hD hE hq hneO hneR hneB
      go_wp2_with fail
      refine (HD.out _ _ _ _ (by rw [World.cell?_alloc_lt _ _ _ hl]; exact hc) (by rw [frozen?_alloc_cells]; exact hf)).mono ?_; clear hc hf k0 k1 k2 k3 k4 k5; rintro e w4 ⟨rfl, hb, hc, hf⟩
      have hA := (HA.out.alloc _).call hb (by omega)
      have hR := (HR.out.alloc _).call hb (by omega)
      have hO := (r6_new w3 0 0 0 0 0 0 _).call hb HNB.out
      have hB := hb.below (HB.out.alloc HB.out.size _) (by omega) (HB.out.alloc HB.out.size _).size
      clear HR HB HA
      have HA := Lib.hid hA
      have HR := Lib.hid hR
      have HO := Lib.hid hO
      have HB := Lib.hid hB
      clear hR hB hb
      obtain ⟨_, _, k0, k1, k2, k3, k4, k5⟩ := hA
      obtain ⟨_, og, o0, o1, o2, o3, o4, o5⟩ := hO
      go_wp2_with fail
      refine (HS.out _ _ _ _ (by rw [hputB]; exact hc) (by rw [World.frozen?_setCell]; exact hf)).mono ?_; clear hc hf k0 k1 k2 k3 k4 k5 og o0 o1 o2 o3 o4 o5; rintro e w5 ⟨rfl, hb, hc, hf⟩
      have hA := (HA.out.other HNO.out 0 _).call hb (by omega)
      have hR := (HR.out.other HNR.out 0 _).call hb (by omega)
      have hO := (HO.out.put0 _).call hb HNB.out
      have hB := hb.below (HB.out.setCell (by simp <;> omega) _) (by omega) (HB.out.setCell (by simp <;> omega) _).size
      clear HR HB HA HO
      have HA := Lib.hid hA
      have HR := Lib.hid hR
      have HO := Lib.hid hO
      have HB := Lib.hid hB
      clear hR hB hb
      obtain ⟨_, _, k0, k1, k2, k3, k4, k5⟩ := hA
      obtain ⟨_, og, o0, o1, o2, o3, o4, o5⟩ := hO
      go_wp2_with fail
      refine (HD.out _ _ _ _ hc hf).mono ?_; clear hc hf k0 k1 k2 k3 k4 k5 og o0 o1 o2 o3 o4 o5; rintro e w6 ⟨rfl, hb, hc, hf⟩
      have hA := HA.out.call hb (by omega)
      have hR := HR.out.call hb (by omega)
      have hO := HO.out.call hb HNB.out
      have hB := hb.below HB.out (by omega) HB.out.size
      clear HR HB HA HO
      have HA := Lib.hid hA
      have HR := Lib.hid hR
      have HO := Lib.hid hO
      have HB := Lib.hid hB
      clear hR hB hb
      obtain ⟨_, _, k0, k1, k2, k3, k4, k5⟩ := hA
      obtain ⟨_, og, o0, o1, o2, o3, o4, o5⟩ := hO
      go_wp2_with fail
      refine (HS.out _ _ _ _ (by rw [hputB]; exact hc) (by rw [World.frozen?_setCell]; exact hf)).mono ?_; clear hc hf k0 k1 k2 k3 k4 k5 og o0 o1 o2 o3 o4 o5; rintro e w7 ⟨rfl, hb, hc, hf⟩
      have hA := (HA.out.other HNO.out 1 _).call hb (by omega)
      have hR := (HR.out.other HNR.out 1 _).call hb (by omega)
      have hO := (HO.out.put1 _).call hb HNB.out
      have hB := hb.below (HB.out.setCell (by simp <;> omega) _) (by omega) (HB.out.setCell (by simp <;> omega) _).size
      clear HR HB HA HO
      have HA := Lib.hid hA
      have HR := Lib.hid hR
      have HO := Lib.hid hO
      have HB := Lib.hid hB
      clear hR hB hb
      obtain ⟨_, _, k0, k1, k2, k3, k4, k5⟩ := hA
      obtain ⟨_, og, o0, o1, o2, o3, o4, o5⟩ := hO
      go_wp2_with fail
      refine (HD.out _ _ _ _ hc hf).mono ?_; clear hc hf k0 k1 k2 k3 k4 k5 og o0 o1 o2 o3 o4 o5; rintro e w8 ⟨rfl, hb, hc, hf⟩
      have hA := HA.out.call hb (by omega)
      have hR := HR.out.call hb (by omega)
      have hO := HO.out.call hb HNB.out
      have hB := hb.below HB.out (by omega) HB.out.size
      clear HR HB HA HO
      have HA := Lib.hid hA
      have HR := Lib.hid hR
      have HO := Lib.hid hO
      have HB := Lib.hid hB
      clear hR hB hb
      obtain ⟨_, _, k0, k1, k2, k3, k4, k5⟩ := hA
      obtain ⟨_, og, o0, o1, o2, o3, o4, o5⟩ := hO
      go_wp2_with fail
      refine (HD.out _ _ _ _ (by rw [hputB]; exact hc) (by rw [World.frozen?_setCell]; exact hf)).mono ?_; clear hc hf k0 k1 k2 k3 k4 k5 og o0 o1 o2 o3 o4 o5; rintro e w9 ⟨rfl, hb, hc, hf⟩
      have hA := (HA.out.other HNO.out 2 _).call hb (by omega)
      have hR := (HR.out.other HNR.out 2 _).call hb (by omega)
      have hO := (HO.out.put2 _).call hb HNB.out
      have hB := hb.below (HB.out.setCell (by simp <;> omega) _) (by omega) (HB.out.setCell (by simp <;> omega) _).size
      clear HR HB HA HO
      have HA := Lib.hid hA
      have HR := Lib.hid hR
      have HO := Lib.hid hO
      have HB := Lib.hid hB
      clear hR hB hb
      obtain ⟨_, _, k0, k1, k2, k3, k4, k5⟩ := hA
      obtain ⟨_, og, o0, o1, o2, o3, o4, o5⟩ := hO
      go_wp2_with fail
      refine (HM.out _ _ _ _ (by rw [hputB]; exact hc) (by rw [World.frozen?_setCell]; exact hf)).mono ?_; clear hc hf k0 k1 k2 k3 k4 k5 og o0 o1 o2 o3 o4 o5; rintro e w10 ⟨rfl, hb, hc, hf⟩
      have hA := (HA.out.other HNO.out 3 _).call hb (by omega)
      have hR := (HR.out.other HNR.out 3 _).call hb (by omega)
      have hO := (HO.out.put3 _).call hb HNB.out
      have hB := hb.below (HB.out.setCell (by simp <;> omega) _) (by omega) (HB.out.setCell (by simp <;> omega) _).size
      clear HR HB HA HO
      have HA := Lib.hid hA
      have HR := Lib.hid hR
      have HO := Lib.hid hO
      have HB := Lib.hid hB
      clear hR hB hb
      obtain ⟨_, _, k0, k1, k2, k3, k4, k5⟩ := hA
      obtain ⟨_, og, o0, o1, o2, o3, o4, o5⟩ := hO
      go_wp2_with fail
      refine (HM.out _ _ _ _ hc hf).mono ?_; clear hc hf k0 k1 k2 k3 k4 k5 og o0 o1 o2 o3 o4 o5; rintro e w11 ⟨rfl, hb, hc, hf⟩
      have hA := HA.out.call hb (by omega)
      have hR := HR.out.call hb (by omega)
      have hO := HO.out.call hb HNB.out
      have hB := hb.below HB.out (by omega) HB.out.size
      clear HR HB HA HO
      have HA := Lib.hid hA
      have HR := Lib.hid hR
      have HO := Lib.hid hO
      have HB := Lib.hid hB
      clear hR hB hb
      obtain ⟨_, _, k0, k1, k2, k3, k4, k5⟩ := hA
      obtain ⟨_, og, o0, o1, o2, o3, o4, o5⟩ := hO
      go_wp2_with fail
      refine (HS.out _ _ _ _ hc hf).mono ?_; clear hc hf k0 k1 k2 k3 k4 k5 og o0 o1 o2 o3 o4 o5; rintro e w12 ⟨rfl, hb, hc, hf⟩
      have hA := HA.out.call hb (by omega)
      have hR := HR.out.call hb (by omega)
      have hO := HO.out.call hb HNB.out
      have hB := hb.below HB.out (by omega) HB.out.size
      clear HR HB HA HO
      have HA := Lib.hid hA
      have HR := Lib.hid hR
      have HO := Lib.hid hO
      have HB := Lib.hid hB
      clear hR hB hb
      obtain ⟨_, _, k0, k1, k2, k3, k4, k5⟩ := hA
      obtain ⟨_, og, o0, o1, o2, o3, o4, o5⟩ := hO
      go_wp2_with fail
      refine (HD.out _ _ _ _ hc hf).mono ?_; clear hc hf k0 k1 k2 k3 k4 k5 og o0 o1 o2 o3 o4 o5; rintro e w13 ⟨rfl, hb, hc, hf⟩
      have hA := HA.out.call hb (by omega)
      have hR := HR.out.call hb (by omega)
      have hO := HO.out.call hb HNB.out
      have hB := hb.below HB.out (by omega) HB.out.size
      clear HR HB HA HO
      have HA := Lib.hid hA
      have HR := Lib.hid hR
      have HO := Lib.hid hO
      have HB := Lib.hid hB
      clear hR hB hb
      obtain ⟨_, _, k0, k1, k2, k3, k4, k5⟩ := hA
      obtain ⟨_, og, o0, o1, o2, o3, o4, o5⟩ := hO
      go_wp2_with fail
      refine (HM.out _ _ _ _ (by rw [hputB]; exact hc) (by rw [World.frozen?_setCell]; exact hf)).mono ?_; clear hc hf k0 k1 k2 k3 k4 k5 og o0 o1 o2 o3 o4 o5; rintro e w14 ⟨rfl, hb, hc, hf⟩
      have hA := (HA.out.other HNO.out 4 _).call hb (by omega)
      have hR := (HR.out.other HNR.out 4 _).call hb (by omega)
      have hO := (HO.out.put4 _).call hb HNB.out
      have hB := hb.below (HB.out.setCell (by simp <;> omega) _) (by omega) (HB.out.setCell (by simp <;> omega) _).size
      clear HR HB HA HO
      have HA := Lib.hid hA
      have HR := Lib.hid hR
      have HO := Lib.hid hO
      have HB := Lib.hid hB
      clear hR hB hb
      obtain ⟨_, _, k0, k1, k2, k3, k4, k5⟩ := hA
      obtain ⟨_, og, o0, o1, o2, o3, o4, o5⟩ := hO
      go_wp2_with fail
      refine (HM.out _ _ _ _ hc hf).mono ?_; clear hc hf k0 k1 k2 k3 k4 k5 og o0 o1 o2 o3 o4 o5; rintro e w15 ⟨rfl, hb, hc, hf⟩
      have hA := HA.out.call hb (by omega)
      have hR := HR.out.call hb (by omega)
      have hO := HO.out.call hb HNB.out
      have hB := hb.below HB.out (by omega) HB.out.size
      clear HR HB HA HO
      have HA := Lib.hid hA
      have HR := Lib.hid hR
      have HO := Lib.hid hO
      have HB := Lib.hid hB
      clear hR hB hb
      obtain ⟨_, _, k0, k1, k2, k3, k4, k5⟩ := hA
      obtain ⟨_, og, o0, o1, o2, o3, o4, o5⟩ := hO
      go_wp2_with fail
      refine (HS.out _ _ _ _ hc hf).mono ?_; clear hc hf k0 k1 k2 k3 k4 k5 og o0 o1 o2 o3 o4 o5; rintro e w16 ⟨rfl, hb, hc, hf⟩
      have hA := HA.out.call hb (by omega)
      have hR := HR.out.call hb (by omega)
      have hO := HO.out.call hb HNB.out
      have hB := hb.below HB.out (by omega) HB.out.size
      clear HR HB HA HO
      have HA := Lib.hid hA
      have HR := Lib.hid hR
      have HO := Lib.hid hO
      have HB := Lib.hid hB
      clear hR hB hb
      obtain ⟨_, _, k0, k1, k2, k3, k4, k5⟩ := hA
      obtain ⟨_, og, o0, o1, o2, o3, o4, o5⟩ := hO
      go_wp2_with fail
      refine (HD.out _ _ _ _ hc hf).mono ?_; clear hc hf k0 k1 k2 k3 k4 k5 og o0 o1 o2 o3 o4 o5; rintro e w17 ⟨rfl, hb, hc, hf⟩
      have hA := HA.out.call hb (by omega)
      have hR := HR.out.call hb (by omega)
      have hO := HO.out.call hb HNB.out
      have hB := hb.below HB.out (by omega) HB.out.size
      clear HR HB HA HO
      have HA := Lib.hid hA
      have HR := Lib.hid hR
      have HO := Lib.hid hO
      have HB := Lib.hid hB
      clear hR hB hb
      obtain ⟨_, _, k0, k1, k2, k3, k4, k5⟩ := hA
      obtain ⟨_, og, o0, o1, o2, o3, o4, o5⟩ := hO
      rw [HE.out] at hc
      obtain ⟨_, g, g0, g1, g2, g3, g4, g5⟩ := HR.out
      have HT := Lib.hid ((HR.out.other HNR.out 5 (.int .i64 (divV (subV (mulV m1 m4) (mulV m0 m5)) D))).cells)
      have hB := HB.out.setCell (p := ⟨w3.heap.size, 5, none⟩) (by simp <;> omega) (.int .i64 (divV (subV (mulV m1 m4) (mulV m0 m5)) D))
      clear HB HR HA HO k0 k1 k2 k3 k4 k5
      have HBx := Lib.hid hB
      clear hB
      by_cases hE : E = 0
      · subst hE
        go_wp2_with fail
        obtain ⟨q0, q1, q2, q3, q4, q5⟩ := m6_put HT.out (.int .i64 (divV m3 D)) (.int .i64 (divV (subV 0 m1) D)) (.int .i64 (divV (subV 0 m2) D)) (.int .i64 (divV m0 D)) (.int .i64 (divV (subV (mulV m2 m5) (mulV m3 m4)) D)) (.int .i64 (divV (subV (mulV m1 m4) (mulV m0 m5)) D))
        refine bodyPost_ret (v := .tuple #[.agg #[.int .i64 (divV m3 D), .int .i64 (divV (subV 0 m1) D), .int .i64 (divV (subV 0 m2) D), .int .i64 (divV m0 D), .int .i64 (divV (subV (mulV m2 m5) (mulV m3 m4)) D), .int .i64 (divV (subV (mulV m1 m4) (mulV m0 m5)) D)], .int .i64 0]) (by simp [results, Try.results18, go_sem, q0, q1, q2, q3, q4, q5]) rfl ⟨by rw [← HQ2.out]; simp [sel, crsV], ?_⟩
        exact (((((HBx.out.setCell (by simp <;> omega) _).setCell (by simp <;> omega) _).setCell (by simp <;> omega) _).setCell (by simp <;> omega) _).setCell (by simp <;> omega) _).setCell (by simp <;> omega) _
      · have hE' : (E != 0) = true := by simp [hE]
        have HN := Lib.hid hE
        clear hE
        go_wp2_with fail
        go_region
        all_goals go_wp2_with fail
        all_goals obtain ⟨q0, q1, q2, q3, q4, q5⟩ := m6_put HT.out (.int .i64 0) (.int .i64 0) (.int .i64 0) (.int .i64 0) (.int .i64 0) (.int .i64 0)
        all_goals refine bodyPost_ret (v := .tuple #[.agg #[.int .i64 0, .int .i64 0, .int .i64 0, .int .i64 0, .int .i64 0, .int .i64 0], .int .i64 E]) (by simp [results, Try.results18, go_sem, q0, q1, q2, q3, q4, q5]) rfl ⟨by rw [← HQ2.out]; simp [sel, HN.out], ?_⟩
        all_goals exact ((((((HBx.out.setCell (by simp <;> omega) _).setCell (by simp <;> omega) _).setCell (by simp <;> omega) _).setCell (by simp <;> omega) _).setCell (by simp <;> omega) _).setCell (by simp <;> omega) _).drew
  · have hF' : (F != 0) = true := by simp [hF]
    have HT := Lib.hid HR.out.cells
    obtain ⟨_, g, g0, g1, g2, g3, g4, g5⟩ := HR.out
    have hq : F = Q := by rw [← HQ.out]; simp only [invE]; rw [kE_first hF]
    have HQ2 := Lib.hid hq
    have HN := Lib.hid hF
    clear hF hq k0 k1 k2 k3 k4 k5
    go_wp2_with fail
    go_region
    all_goals go_wp2_with fail
    all_goals obtain ⟨q0, q1, q2, q3, q4, q5⟩ := m6_put HT.out (.int .i64 0) (.int .i64 0) (.int .i64 0) (.int .i64 0) (.int .i64 0) (.int .i64 0)
    all_goals refine bodyPost_ret (v := .tuple #[.agg #[.int .i64 0, .int .i64 0, .int .i64 0, .int .i64 0, .int .i64 0, .int .i64 0], .int .i64 F]) (by simp [results, Try.results18, go_sem, q0, q1, q2, q3, q4, q5]) rfl ⟨by rw [← HQ2.out]; simp [sel, HN.out], ?_⟩
    all_goals exact ((((((HB.out.setCell (by simp <;> omega) _).setCell (by simp <;> omega) _).setCell (by simp <;> omega) _).setCell (by simp <;> omega) _).setCell (by simp <;> omega) _).setCell (by simp <;> omega) _).drew
end Go.Proofs.Ytlgjlnbdfpncmaa
