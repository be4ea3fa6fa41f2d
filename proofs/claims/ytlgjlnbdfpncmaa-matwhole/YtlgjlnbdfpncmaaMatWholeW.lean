/-
  The walk of the law MatWhole.
-/
import Derived.Test.YtlgjlnbdfpncmaaMatWholeM
import Derived.OpenShut
import Derived.LoopN
namespace Go.Proofs.Ytlgjlnbdfpncmaa
open Go.RowKit
open Fx
theorem tmod_small (a k : Int) (hk : 0 < k) : Bd (k - 1) (a.tmod k) := by
  have h := tmod_lt a k (by omega)
  rw [absI_pos (n := k) (by omega)] at h
  unfold absI at h
  unfold Bd
  split at h <;> omega
theorem HasTwo.other {W : World} {B O : Nat} {X Y : Int} (h : HasTwo W B X Y) (hne : B ≠ O) (u v : Value) : HasTwo ((W.setCell ⟨O, 0, none⟩ u).setCell ⟨O, 1, none⟩ v) B X Y := by
  obtain ⟨h, h0, h1⟩ := h
  exact ⟨by simpa [World.setCell] using h, two_keep hne ⟨h0, h1⟩⟩
theorem HasTwo.put {W : World} {B : Nat} {X Y : Int} (h : HasTwo W B X Y) (P Q : Int) : HasTwo ((W.setCell ⟨B, 0, none⟩ (.int .i64 P)).setCell ⟨B, 1, none⟩ (.int .i64 Q)) B P Q :=
  ⟨by simpa [World.setCell] using h.1, pt_put h.2.1 h.2.2 _ _⟩
set_option maxHeartbeats 4000000 in
theorem lawMatWhole (a0 a1 a2 a3 a4 a5 b0 b1 b2 b3 b4 b5 x y up : Int)
    (_w_a0 : (Lit.int .i8 a0).wf = true) (_w_a1 : (Lit.int .i8 a1).wf = true) (_w_a2 : (Lit.int .i8 a2).wf = true) (_w_a3 : (Lit.int .i8 a3).wf = true) (_w_a4 : (Lit.int .i8 a4).wf = true) (_w_a5 : (Lit.int .i8 a5).wf = true) (_w_b0 : (Lit.int .i8 b0).wf = true) (_w_b1 : (Lit.int .i8 b1).wf = true) (_w_b2 : (Lit.int .i8 b2).wf = true) (_w_b3 : (Lit.int .i8 b3).wf = true) (_w_b4 : (Lit.int .i8 b4).wf = true) (_w_b5 : (Lit.int .i8 b5).wf = true) (_w_x : (Lit.int .i8 x).wf = true) (_w_y : (Lit.int .i8 y).wf = true) (w_up : (Lit.int .u8 up).wf = true) (w : World) :
    Calls Try.prog 7 #[.agg #[.int .i8 a0, .int .i8 a1, .int .i8 a2, .int .i8 a3, .int .i8 a4, .int .i8 a5], .agg #[.int .i8 b0, .int .i8 b1, .int .i8 b2, .int .i8 b3, .int .i8 b4, .int .i8 b5], .int .i8 x, .int .i8 y, .int .u8 up] w fun e w' => e = .returned (.bool true) ∧ Below w.heap.size w w' := by
  obtain ⟨A0, hA0⟩ : ∃ n, a0.tmod 4 = n := ⟨_, rfl⟩
  have dA0 : Bd 3 A0 := by rw [← hA0]; exact tmod_small a0 4 (by omega)
  obtain ⟨A1, hA1⟩ : ∃ n, a1.tmod 4 = n := ⟨_, rfl⟩
  have dA1 : Bd 3 A1 := by rw [← hA1]; exact tmod_small a1 4 (by omega)
  obtain ⟨A2, hA2⟩ : ∃ n, a2.tmod 4 = n := ⟨_, rfl⟩
  have dA2 : Bd 3 A2 := by rw [← hA2]; exact tmod_small a2 4 (by omega)
  obtain ⟨A3, hA3⟩ : ∃ n, a3.tmod 4 = n := ⟨_, rfl⟩
  have dA3 : Bd 3 A3 := by rw [← hA3]; exact tmod_small a3 4 (by omega)
  obtain ⟨A4, hA4⟩ : ∃ n, a4.tmod 4 = n := ⟨_, rfl⟩
  have dA4 : Bd 3 A4 := by rw [← hA4]; exact tmod_small a4 4 (by omega)
  obtain ⟨A5, hA5⟩ : ∃ n, a5.tmod 4 = n := ⟨_, rfl⟩
  have dA5 : Bd 3 A5 := by rw [← hA5]; exact tmod_small a5 4 (by omega)
  obtain ⟨B0, hB0⟩ : ∃ n, b0.tmod 4 = n := ⟨_, rfl⟩
  have dB0 : Bd 3 B0 := by rw [← hB0]; exact tmod_small b0 4 (by omega)
  obtain ⟨B1, hB1⟩ : ∃ n, b1.tmod 4 = n := ⟨_, rfl⟩
  have dB1 : Bd 3 B1 := by rw [← hB1]; exact tmod_small b1 4 (by omega)
  obtain ⟨B2, hB2⟩ : ∃ n, b2.tmod 4 = n := ⟨_, rfl⟩
  have dB2 : Bd 3 B2 := by rw [← hB2]; exact tmod_small b2 4 (by omega)
  obtain ⟨B3, hB3⟩ : ∃ n, b3.tmod 4 = n := ⟨_, rfl⟩
  have dB3 : Bd 3 B3 := by rw [← hB3]; exact tmod_small b3 4 (by omega)
  obtain ⟨B4, hB4⟩ : ∃ n, b4.tmod 4 = n := ⟨_, rfl⟩
  have dB4 : Bd 3 B4 := by rw [← hB4]; exact tmod_small b4 4 (by omega)
  obtain ⟨B5, hB5⟩ : ∃ n, b5.tmod 4 = n := ⟨_, rfl⟩
  have dB5 : Bd 3 B5 := by rw [← hB5]; exact tmod_small b5 4 (by omega)
  obtain ⟨X, hX⟩ : ∃ n, x.tmod 20 = n := ⟨_, rfl⟩
  have dX : Bd 19 X := by rw [← hX]; exact tmod_small x 20 (by omega)
  obtain ⟨Y, hY⟩ : ∃ n, y.tmod 20 = n := ⟨_, rfl⟩
  have dY : Bd 19 Y := by rw [← hY]; exact tmod_small y 20 (by omega)
  obtain ⟨K, hK⟩ : ∃ n, up.tmod 9 = n := ⟨_, rfl⟩
  have dK : Bd 8 K := by rw [← hK]; exact tmod_small up 9 (by omega)
  have hK' : up % 9 = K := by rw [← hK]; exact (Int.tmod_eq_emod_of_nonneg (bounds_u8 w_up).1).symm
  obtain ⟨C0, C1, C2, C3, C4, C5, P1, P2, Q1, Q2, g1, g2, g3, g4⟩ := whole_first A0 A1 A2 A3 A4 A5 B0 B1 B2 B3 B4 B5 X Y dA0 dA1 dA2 dA3 dA4 dA5 dB0 dB1 dB2 dB3 dB4 dB5 dX dY
  obtain ⟨V0, V1, V2, V3, V4, V5, T1, T2, g5, g6, g7, g8⟩ := whole_second K A4 A5 X Y dK dA4 dA5 dX dY
  unfold SixR at g1 g5
  unfold PtR at g2 g3 g4 g6 g7
  have G1 := Lib.hid g1
  have G2 := Lib.hid g2
  have G3 := Lib.hid g3
  have G4 := Lib.hid g4
  have G5 := Lib.hid g5
  have G6 := Lib.hid g6
  have G7 := Lib.hid g7
  have G8 := Lib.hid g8
  have eA01 := dA0.1
  have eA02 := dA0.2
  have eA11 := dA1.1
  have eA12 := dA1.2
  have eA21 := dA2.1
  have eA22 := dA2.2
  have eA31 := dA3.1
  have eA32 := dA3.2
  have eA41 := dA4.1
  have eA42 := dA4.2
  have eA51 := dA5.1
  have eA52 := dA5.2
  have eB01 := dB0.1
  have eB02 := dB0.2
  have eB11 := dB1.1
  have eB12 := dB1.2
  have eB21 := dB2.1
  have eB22 := dB2.2
  have eB31 := dB3.1
  have eB32 := dB3.2
  have eB41 := dB4.1
  have eB42 := dB4.2
  have eB51 := dB5.1
  have eB52 := dB5.2
  have eX1 := dX.1
  have eX2 := dX.2
  have eY1 := dY.1
  have eY2 := dY.2
  have eK1 := dK.1
  have eK2 := dK.2
  clear g1 g2 g3 g4 g5 g6 g7 g8 w_up dA0 dA1 dA2 dA3 dA4 dA5 dB0 dB1 dB2 dB3 dB4 dB5 dX dY dK
  go_enter Try.func7, Try.ntmps7
  go_wp2_with fail
  refine wp_loop_rounds 7 ?_
  rw [rounds_succ]
  go_wp2_with fail
  rw [rounds_succ]
  go_wp2_with fail
  rw [rounds_succ]
  go_wp2_with fail
  rw [rounds_succ]
  go_wp2_with fail
  rw [rounds_succ]
  go_wp2_with fail
  rw [rounds_succ]
  go_wp2_with fail
  rw [rounds_succ]
  go_wp2_with fail
  refine (G1.out _).mono ?_; rintro e w1 ⟨rfl, hb⟩
  have hM : R6 w1 (w.heap.size + 1 + 1) (A0 * 65536) (A1 * 65536) (A2 * 65536) (A3 * 65536) (A4 * 65536) (A5 * 65536) := by
    refine R6.below ?_ hb
    refine ⟨by simp <;> omega, fun o => by simp [go_sem], ?_, ?_, ?_, ?_, ?_, ?_⟩ <;> simp [go_sem]
  have hN : R6 w1 (w.heap.size + 1 + 1 + 1) (B0 * 65536) (B1 * 65536) (B2 * 65536) (B3 * 65536) (B4 * 65536) (B5 * 65536) := by
    refine R6.below ?_ hb
    refine ⟨by simp <;> omega, fun o => by simp [go_sem], ?_, ?_, ?_, ?_, ?_, ?_⟩ <;> simp [go_sem]
  have hP : HasTwo w1 (w.heap.size + 1 + 1 + 1 + 1) (X * 65536) (Y * 65536) := by
    refine HasTwo.below ?_ hb
    refine ⟨by simp <;> omega, ?_, ?_⟩ <;> simp [go_sem]
  have hB : Below w.heap.size w w1 := ((((((Below.refl w.heap.size w).alloc (by simp) _).alloc (by simp <;> omega) _).alloc (by simp <;> omega) _).alloc (by simp <;> omega) _).alloc (by simp <;> omega) _).trans (hb.mono (by simp <;> omega))
  clear hb hA0 hA1 hA2 hA3 hA4 hA5 hB0 hB1 hB2 hB3 hB4 hB5 hX hY
  have HM := Lib.hid hM
  have HN := Lib.hid hN
  have HP := Lib.hid hP
  have HB := Lib.hid hB
  clear hB hM hN hP
  obtain ⟨sM, _, cM0, cM1, cM2, cM3, cM4, cM5⟩ := HM.out
  obtain ⟨sP, cP0, cP1⟩ := HP.out
  go_wp2_with fail
  refine (G2.out _).mono ?_; clear sM cM0 cM1 cM2 cM3 cM4 cM5 sP cP0 cP1; rintro e w2 ⟨rfl, hb⟩
  have hM := (HM.out.alloc _).below hb
  have hN := (HN.out.alloc _).below hb
  have hP := (HP.out.alloc _).below hb
  have HSZ : Hid (w.heap.size + 1 + 1 + 1 + 1 < w1.heap.size ∧ w1.heap.size < w2.heap.size) := ⟨HP.out.1, sizeL hb⟩
  have hC := (r6_new w1 (C0) (C1) (C2) (C3) (C4) (C5) _).below hb
  have hB := nextB HB.out hb
  clear HB HM HN HP
  clear hb
  have HM := Lib.hid hM
  have HN := Lib.hid hN
  have HP := Lib.hid hP
  have HC := Lib.hid hC
  have HB := Lib.hid hB
  clear hB hM hN hP hC
  obtain ⟨sN, _, cN0, cN1, cN2, cN3, cN4, cN5⟩ := HN.out
  go_wp2_with fail
  refine (G3.out _).mono ?_; clear sN cN0 cN1 cN2 cN3 cN4 cN5; rintro e w3 ⟨rfl, hb⟩
  have hM := (HM.out.alloc _).below hb
  have hN := (HN.out.alloc _).below hb
  have hP := (HP.out.alloc _).below hb
  have hC := (HC.out.alloc _).below hb
  have hQ := (hasTwo_new w2 (P1) (P2) _).below hb
  have hB := nextB HB.out hb
  clear HB HM HN HP HC
  have fq : ∀ o, w3.frozen? ⟨w2.heap.size, o, none⟩ = false := fun o => by rw [(mcell hb).2 _ _ (by simp <;> omega)]; simp [go_sem]
  clear hb
  have hneM : w.heap.size + 1 + 1 ≠ w2.heap.size := by have := HSZ.out; omega
  have hneN : w.heap.size + 1 + 1 + 1 ≠ w2.heap.size := by have := HSZ.out; omega
  have hneP : w.heap.size + 1 + 1 + 1 + 1 ≠ w2.heap.size := by have := HSZ.out; omega
  have hneC : w1.heap.size ≠ w2.heap.size := by have := HSZ.out; omega
  have hq2 : w.heap.size ≤ w2.heap.size := by have := HSZ.out; omega
  have HM := Lib.hid hM
  have HN := Lib.hid hN
  have HP := Lib.hid hP
  have HC := Lib.hid hC
  have HQ := Lib.hid hQ
  have HB := Lib.hid hB
  clear hB hM hN hP hC hQ
  have hpC : ∀ (W : World) (i o : Nat) (v : Value), (W.setCell ⟨w2.heap.size, i, none⟩ v).cell? ⟨w1.heap.size, o, none⟩ = W.cell? ⟨w1.heap.size, o, none⟩ := fun W i o v => World.cell?_setCell_other _ _ _ _ (adr_ne2 _ _ _ _ (Ne.symm hneC))
  have hpP : ∀ (W : World) (i o : Nat) (v : Value), (W.setCell ⟨w2.heap.size, i, none⟩ v).cell? ⟨w.heap.size + 1 + 1 + 1 + 1, o, none⟩ = W.cell? ⟨w.heap.size + 1 + 1 + 1 + 1, o, none⟩ := fun W i o v => World.cell?_setCell_other _ _ _ _ (adr_ne2 _ _ _ _ (Ne.symm hneP))
  obtain ⟨sC, _, cC0, cC1, cC2, cC3, cC4, cC5⟩ := HC.out
  obtain ⟨sP, cP0, cP1⟩ := HP.out
  obtain ⟨sQ, cQ0, cQ1⟩ := HQ.out
  go_wp2_with fail
  refine (G4.out _).mono ?_; clear sC cC0 cC1 cC2 cC3 cC4 cC5 sP cP0 cP1 sQ cQ0 cQ1; rintro e w4 ⟨rfl, hb⟩
  have hM := ((HM.out.other hneM 0 (.int .i64 (Q1))).other hneM 1 (.int .i64 (Q2))).below hb
  have hN := ((HN.out.other hneN 0 (.int .i64 (Q1))).other hneN 1 (.int .i64 (Q2))).below hb
  have hP := (HP.out.other hneP (.int .i64 (Q1)) (.int .i64 (Q2))).below hb
  have hC := ((HC.out.other hneC 0 (.int .i64 (Q1))).other hneC 1 (.int .i64 (Q2))).below hb
  have hQ := (HQ.out.put (Q1) (Q2)).below hb
  have hB := mthen ((HB.out.setCell (p := ⟨w2.heap.size, 0, none⟩) hq2 (.int .i64 (Q1))).setCell (p := ⟨w2.heap.size, 1, none⟩) hq2 (.int .i64 (Q2))) hb
  clear HB HM HN HP HC HQ
  clear hb hpC hpP fq hneM hneN hneP hneC hq2
  clear hC hN
  have HM := Lib.hid hM
  have HP := Lib.hid hP
  have HQ := Lib.hid hQ
  have HB := Lib.hid hB
  clear hB hM hP hQ
  go_wp2_with fail
  refine (answers_at _).mono ?_; rintro e w5 ⟨rfl, hb⟩
  have hM := (HM.out.alloc _).below hb
  have hP := (HP.out.alloc _).below hb
  have hQ := (HQ.out.alloc _).below hb
  have hR := (hasTwo_new w4 (Q1) (Q2) _).below hb
  have hB := nextB HB.out hb
  clear HB HM HP HQ
  clear hb
  have HM := Lib.hid hM
  have HP := Lib.hid hP
  have HQ := Lib.hid hQ
  have HR := Lib.hid hR
  have HB := Lib.hid hB
  clear hB hM hP hQ hR
  obtain ⟨sQ, cQ0, cQ1⟩ := HQ.out
  obtain ⟨sR, cR0, cR1⟩ := HR.out
  obtain ⟨sM, _, cM0, cM1, cM2, cM3, cM4, cM5⟩ := HM.out
  go_wp2_with fail
  refine (G5.out _).mono ?_; clear sQ cQ0 cQ1 sR cR0 cR1 sM cM0 cM1 cM2 cM3 cM4 cM5; rintro e w6 ⟨rfl, hb⟩
  have hM := (HM.out.alloc _).below hb
  have hP := (HP.out.alloc _).below hb
  have hQ := (HQ.out.alloc _).below hb
  have hR := (HR.out.alloc _).below hb
  have hU := (r6_new w5 (65536) (K * 65536) (0) (65536) (A4 * 65536) (A5 * 65536) _).below hb
  have hB := nextB HB.out hb
  clear HB HM HP HQ HR
  clear hb
  clear hM hQ hR
  have HP := Lib.hid hP
  have HU := Lib.hid hU
  have HB := Lib.hid hB
  clear hB hP hU
  obtain ⟨sU, _, cU0, cU1, cU2, cU3, cU4, cU5⟩ := HU.out
  obtain ⟨sP, cP0, cP1⟩ := HP.out
  go_wp2_with fail
  refine (G6.out _).mono ?_; clear sU cU0 cU1 cU2 cU3 cU4 cU5 sP cP0 cP1; rintro e w7 ⟨rfl, hb⟩
  have hP := (HP.out.alloc _).below hb
  have hU := (HU.out.alloc _).below hb
  have hV := (r6_new w6 (V0) (V1) (V2) (V3) (V4) (V5) _).below hb
  have hB := nextB HB.out hb
  clear HB HP HU
  clear hb
  have HP := Lib.hid hP
  have HU := Lib.hid hU
  have HV := Lib.hid hV
  have HB := Lib.hid hB
  clear hB hP hU hV
  obtain ⟨sV, _, cV0, cV1, cV2, cV3, cV4, cV5⟩ := HV.out
  go_wp2_with fail
  refine (G7.out _).mono ?_; clear sV cV0 cV1 cV2 cV3 cV4 cV5; rintro e w8 ⟨rfl, hb⟩
  have hP := (HP.out.alloc _).below hb
  have hU := (HU.out.alloc _).below hb
  have hV := (HV.out.alloc _).below hb
  have hT := (hasTwo_new w7 (T1) (T2) _).below hb
  have hB := nextB HB.out hb
  clear HB HP HU HV
  clear hb
  have HP := Lib.hid hP
  have HU := Lib.hid hU
  have HV := Lib.hid hV
  have HT := Lib.hid hT
  have HB := Lib.hid hB
  clear hB hP hU hV hT
  obtain ⟨sU, _, cU0, cU1, cU2, cU3, cU4, cU5⟩ := HU.out
  go_wp2_with fail
  refine (G8.out _).mono ?_; clear sU cU0 cU1 cU2 cU3 cU4 cU5; rintro e w9 ⟨rfl, hb⟩
  have hP := (HP.out.alloc _).below hb
  have hU := (HU.out.alloc _).below hb
  have hV := (HV.out.alloc _).below hb
  have hT := (HT.out.alloc _).below hb
  have hZ := (hasTwo_new w8 (X * 65536) (Y * 65536) _).below hb
  have hB := nextB HB.out hb
  clear HB HP HU HV HT
  clear hb
  have HP := Lib.hid hP
  have HU := Lib.hid hU
  have HV := Lib.hid hV
  have HT := Lib.hid hT
  have HZ := Lib.hid hZ
  have HB := Lib.hid hB
  clear hB hP hU hV hT hZ
  obtain ⟨sZ, cZ0, cZ1⟩ := HZ.out
  obtain ⟨sP, cP0, cP1⟩ := HP.out
  go_wp2_with fail
  go_ret
  exact ⟨rfl, HB.out⟩
end Go.Proofs.Ytlgjlnbdfpncmaa
