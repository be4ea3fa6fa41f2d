/-
  The walk of the law MatMoves.
-/
import Derived.Test.YtlgjlnbdfpncmaaMatTwo
import Derived.Test.YtlgjlnbdfpncmaaMatJoinsM
import Derived.Deep.DeepCutAuto
import Derived.Deep.RegionHeld3
import Derived.OpenShut
namespace Go.Proofs.Ytlgjlnbdfpncmaa
open Go.RowKit
open Fx
namespace Fx
theorem fits_bd {n : Int} (h1 : -2147483648 ≤ n) (h2 : n ≤ 2147483647) : fits n = true := (fits_iff n).2 ⟨h1, h2⟩
theorem prod16 (a b : Int) (ha1 : -32768 ≤ a) (ha2 : a ≤ 32767) (hb1 : -32768 ≤ b) (hb2 : b ≤ 32767) : -1073741824 ≤ a * b ∧ a * b ≤ 1073741824 := by
  have h : (a * b).natAbs ≤ 32768 * 32768 := by
    rw [Int.natAbs_mul]; exact Nat.mul_le_mul (by omega) (by omega)
  omega
theorem addV_fit {a b : Int} (ha : fits a = true) (hb : fits b = true) (h : fits (a + b) = true) : addV a b = a + b ∧ addE a b = 0 := by
  simp [addV, addE, ha, hb, outV_yes h, outE_yes h]
theorem mulV_int {x p : Int} (hx : fits x = true) (hP : fits (p * 65536) = true) (h : fits (p * x) = true) : mulV x (p * 65536) = p * x ∧ mulE x (p * 65536) = 0 := by
  have e : near (x * (p * 65536)) 65536 = p * x := by rw [show x * (p * 65536) = (p * x) * 65536 by rw [← Int.mul_assoc, Int.mul_comm x p]]; exact near_mul _ _ (by omega)
  simp [mulV, mulE, hx, hP, e, outV_yes h, outE_yes h]
/-- what moves, and a point -/
theorem moves_apply {x y P Q : Int} (hx : fits x = true) (hy : fits y = true) (hP : fits P = true) (hQ : fits Q = true) (h1 : fits (P + x) = true) (h2 : fits (Q + y) = true) :
    lin1V 65536 P 0 Q x = P + x ∧ lin1V 0 P 65536 Q y = Q + y ∧ aplE 65536 0 0 65536 x y P Q = 0 := by
  simp [aplE, lin1E, linE, lin1V, linV, mulV_one' hP, mulV_one' hQ, mulE_one' hP, mulE_one' hQ, mulV_zero' hP, mulV_zero' hQ, mulE_zero' hP, mulE_zero' hQ, addV_zero' hP, addE_zero' hP, addV_zero hQ, addE_zero hQ, addV_fit hP hx h1, addV_fit hQ hy h2, zero_kE]
theorem moves_delta {P Q : Int} (hP : fits P = true) (hQ : fits Q = true) : linV 65536 P 0 Q = P ∧ linV 0 P 65536 Q = Q ∧ dltE 65536 0 0 65536 P Q = 0 := by
  simp [dltE, linE, linV, mulV_one' hP, mulV_one' hQ, mulE_one' hP, mulE_one' hQ, mulV_zero' hP, mulV_zero' hQ, mulE_zero' hP, mulE_zero' hQ, addV_zero' hP, addE_zero' hP, addV_zero hQ, addE_zero hQ, zero_kE]
theorem stretch_apply {x y p q : Int} (hx : fits x = true) (hy : fits y = true) (hP : fits (p * 65536) = true) (hQ : fits (q * 65536) = true) (h1 : fits (p * x) = true) (h2 : fits (q * y) = true) :
    lin1V x (p * 65536) 0 (q * 65536) 0 = p * x ∧ lin1V 0 (p * 65536) y (q * 65536) 0 = q * y ∧ aplE x 0 0 y 0 0 (p * 65536) (q * 65536) = 0 := by
  simp [aplE, lin1E, linE, lin1V, linV, mulV_int hx hP h1, mulV_int hy hQ h2, mulV_zero' hP, mulV_zero' hQ, mulE_zero' hP, mulE_zero' hQ, addV_zero' h1, addE_zero' h1, addV_zero h2, addE_zero h2, addV_zero' h2, addE_zero' h2, zero_kE]
end Fx
theorem wrap_of_small (n : Int) (h1 : -32768 ≤ n) (h2 : n ≤ 32767) : IntKind.i64.wrap n = n := by
  simp [IntKind.wrap, IntKind.signed, IntKind.bits] <;> omega
theorem moves_call (x y P Q : Int) (hx : fits x = true) (hy : fits y = true) (hP : fits P = true) (hQ : fits Q = true) : ∃ X Y E : Int,
    (∀ w, Calls Try.prog 8 #[.agg #[.int .i64 65536, .int .i64 0, .int .i64 0, .int .i64 65536, .int .i64 x, .int .i64 y], .agg #[.int .i64 P, .int .i64 Q]] w fun e w' => e = .returned (.tuple #[.agg #[.int .i64 X, .int .i64 Y], .int .i64 E]) ∧ Below w.heap.size w w') ∧
    (fits (P + x) = true → fits (Q + y) = true → X = P + x ∧ Y = Q + y ∧ E = 0) := by
  refine ⟨_, _, _, fun w => matApply_at 65536 0 0 65536 x y P Q w, fun h1 h2 => ?_⟩
  obtain ⟨e1, e2, e3⟩ := moves_apply hx hy hP hQ h1 h2
  rw [e1, e2, e3]; simp [sel]
set_option maxHeartbeats 4000000 in
set_option maxRecDepth 100000 in
theorem lawMatMoves (x y p q : Int) (w0 : (Lit.int .i16 x).wf = true) (w1 : (Lit.int .i16 y).wf = true) (w2 : (Lit.int .i16 p).wf = true) (w3 : (Lit.int .i16 q).wf = true) (w : World) :
    Calls Try.prog 6 #[.int .i16 x, .int .i16 y, .int .i16 p, .int .i16 q] w fun e w' => e = .returned (.bool true) ∧ Below w.heap.size w w' := by
  obtain ⟨x1, x2⟩ := bounds_i16 w0
  obtain ⟨y1, y2⟩ := bounds_i16 w1
  obtain ⟨p1, p2⟩ := bounds_i16 w2
  obtain ⟨q1, q2⟩ := bounds_i16 w3
  clear w0 w1 w2 w3
  obtain ⟨u1, u2⟩ := prod16 p x p1 p2 x1 x2
  obtain ⟨v1, v2⟩ := prod16 q y q1 q2 y1 y2
  have fx := fits_bd (n := x) (by omega) (by omega)
  have fy := fits_bd (n := y) (by omega) (by omega)
  have fP := fits_bd (n := p * 65536) (by omega) (by omega)
  have fQ := fits_bd (n := q * 65536) (by omega) (by omega)
  have fu := fits_bd (n := p * x) (by omega) (by omega)
  have fv := fits_bd (n := q * y) (by omega) (by omega)
  obtain ⟨X, Y, E, hC1, hX⟩ := moves_call x y (p * 65536) (q * 65536) fx fy fP fQ
  have hC2 := fun v => matDelta_at 65536 0 0 65536 x y (p * 65536) (q * 65536) v
  obtain ⟨e1, e2, e3⟩ := moves_delta fP fQ
  rw [e1, e2, e3] at hC2
  have hC3 := fun v => matApply_at x 0 0 y 0 0 (p * 65536) (q * 65536) v
  obtain ⟨e4, e5, e6⟩ := stretch_apply fx fy fP fQ fu fv
  rw [e4, e5, e6] at hC3
  unfold PtE sel at hC2 hC3
  simp only [if_true] at hC2 hC3
  have hT := fun v => translate_at x y v
  have hS := fun v => stretch_at x y v
  unfold Mat6 at hT hS
  have wx : IntKind.i64.wrap x = x := wrap_of_small x (by omega) (by omega)
  have wy : IntKind.i64.wrap y = y := wrap_of_small y (by omega) (by omega)
  have hT' : ∀ v, Calls Try.prog 21 #[.int .i64 (IntKind.i64.wrap x), .int .i64 (IntKind.i64.wrap y)] v fun e w' => e = .returned (.agg #[.int .i64 65536, .int .i64 0, .int .i64 0, .int .i64 65536, .int .i64 x, .int .i64 y]) ∧ Below v.heap.size v w' := fun v => by rw [wx, wy]; exact hT v
  have hS' : ∀ v, Calls Try.prog 22 #[.int .i64 (IntKind.i64.wrap x), .int .i64 (IntKind.i64.wrap y)] v fun e w' => e = .returned (.agg #[.int .i64 x, .int .i64 0, .int .i64 0, .int .i64 y, .int .i64 0, .int .i64 0]) ∧ Below v.heap.size v w' := fun v => by rw [wx, wy]; exact hS v
  have HC1 := Lib.hid hC1
  have HC2 := Lib.hid hC2
  have HC3 := Lib.hid hC3
  have HT := Lib.hid hT'
  have HS := Lib.hid hS'
  have HX := Lib.hid hX
  have HU := Lib.hid (fun v => refFits_yes (p * x) v fu)
  have HV := Lib.hid (fun v => refFits_yes (q * y) v fv)
  clear hC1 hC2 hC3 hT hS hT' hS' wx wy hX e1 e2 e3 e4 e5 e6 fx fy fP fQ fu fv
  go_enter Try.func6, Try.ntmps6
  go_upto_region 2 with fail
  obtain ⟨W, hW⟩ : ∃ W, w.alloc (Obj.cells #[.int .i64 (p * 65536), .int .i64 (q * 65536)] 24) = W := ⟨_, rfl⟩
  rw [hW]
  have hA : HasTwo W w.heap.size (p * 65536) (q * 65536) := by rw [← hW]; exact hasTwo_new _ _ _ _
  have hB : Below w.heap.size w W := by rw [← hW]; exact (Below.refl _ _).alloc (Nat.le_refl _) _
  have HA := Lib.hid hA
  have HB := Lib.hid hB
  have hneA : w.heap.size ≠ W.heap.size := by have := hA.1; omega
  obtain ⟨_, m0, m1⟩ := hA
  clear hW hB
  go_cut [10, 11] (fun s t wx => PtAt W (X) (Y) (E) s t wx)
  case first =>
    go_region_held3 (fun w' => w'.cell? ⟨w.heap.size, 0, none⟩ = some (.int .i64 (p * 65536)) ∧ w'.cell? ⟨w.heap.size, 1, none⟩ = some (.int .i64 (q * 65536))) (first | with_reducible exact ⟨j0, j1⟩ | with_reducible exact ⟨i0, i1⟩ | with_reducible exact two_keep hneB ⟨j0, j1⟩ | with_reducible exact two_keep hneA ⟨j0, j1⟩ | go_keep)
      (first | (go_at_call 21; refine (HT.out _).mono ?_; rintro e wI ⟨rfl, hbI⟩; first | (refine tarm_2 hbI HA.out ?_; intro hbJ i0 i1) | (refine tarm_1 hbI HA.out ?_; intro hbJ i0 i1)) | (go_at_call 8; refine (HC1.out _).mono ?_; rintro e wC ⟨rfl, hbC⟩; first | (refine telim_B hbC ?_; intro k0 k1 kf; refine tarm_4 hbJ hbC HA.out ?_; intro hneB j0 j1) | (refine telim_A hbI hbC ?_; intro k0 k1 kf; refine tarm_3 hbJ hbC HA.out ?_; intro j0 j1) | (refine tarm_3 hbJ hbC HA.out ?_; intro j0 j1)))
    all_goals (go_wp2_with fail; go_meet; first | with_reducible exact pt_A hbI hbC | with_reducible exact pt_B hbJ hbC | with_reducible exact pt_C hbJ hbC)
  case rest =>
  obtain ⟨B2, rfl, rfl, hX2, hb⟩ := hcut
  obtain ⟨W3, hW3⟩ : ∃ v, v = wc := ⟨_, rfl⟩
  subst hW3
  have hA := HA.out.below hb
  have hBn := mthen HB.out hb
  clear HA HB m0 m1 hneA
  have HA := Lib.hid hA
  have HB := Lib.hid hBn
  have HX2 := Lib.hid hX2
  have hneA : w.heap.size ≠ W3.heap.size := by have := hA.1; omega
  obtain ⟨_, m0, m1⟩ := hA
  clear hX2 hb hBn
  go_upto_region 3 with fail
  go_cut [12, 13] (fun s t wx => PtAt W3 (p * 65536) (q * 65536) (0) s t wx)
  case first =>
    go_region_held3 (fun w' => w'.cell? ⟨w.heap.size, 0, none⟩ = some (.int .i64 (p * 65536)) ∧ w'.cell? ⟨w.heap.size, 1, none⟩ = some (.int .i64 (q * 65536))) (first | with_reducible exact ⟨j0, j1⟩ | with_reducible exact ⟨i0, i1⟩ | with_reducible exact two_keep hneB ⟨j0, j1⟩ | with_reducible exact two_keep hneA ⟨j0, j1⟩ | go_keep)
      (first | (go_at_call 21; refine (HT.out _).mono ?_; rintro e wI ⟨rfl, hbI⟩; first | (refine tarm_2 hbI HA.out ?_; intro hbJ i0 i1) | (refine tarm_1 hbI HA.out ?_; intro hbJ i0 i1)) | (go_at_call 10; refine (HC2.out _).mono ?_; rintro e wC ⟨rfl, hbC⟩; first | (refine telim_B hbC ?_; intro k0 k1 kf; refine tarm_4 hbJ hbC HA.out ?_; intro hneB j0 j1) | (refine telim_A hbI hbC ?_; intro k0 k1 kf; refine tarm_3 hbJ hbC HA.out ?_; intro j0 j1) | (refine tarm_3 hbJ hbC HA.out ?_; intro j0 j1)))
    all_goals (go_wp2_with fail; go_meet; first | with_reducible exact pt_A hbI hbC | with_reducible exact pt_B hbJ hbC | with_reducible exact pt_C hbJ hbC)
  case rest =>
  obtain ⟨B3, rfl, rfl, hX3, hb⟩ := hcut
  obtain ⟨W4, hW4⟩ : ∃ v, v = wc := ⟨_, rfl⟩
  subst hW4
  have hA := HA.out.below hb
  have hBn := mthen HB.out hb
  have hX2 := HX2.out.below hb
  clear HA HB m0 m1 hneA HX2
  have HA := Lib.hid hA
  have HB := Lib.hid hBn
  have HX2 := Lib.hid hX2
  have HX3 := Lib.hid hX3
  have hneA : w.heap.size ≠ W4.heap.size := by have := hA.1; omega
  obtain ⟨_, m0, m1⟩ := hA
  clear hX2 hX3 hb hBn
  go_upto_region 4 with fail
  go_cut [14, 15] (fun s t wx => PtAt W4 (p * x) (q * y) (0) s t wx)
  case first =>
    go_region_held3 (fun w' => w'.cell? ⟨w.heap.size, 0, none⟩ = some (.int .i64 (p * 65536)) ∧ w'.cell? ⟨w.heap.size, 1, none⟩ = some (.int .i64 (q * 65536))) (first | with_reducible exact ⟨j0, j1⟩ | with_reducible exact ⟨i0, i1⟩ | with_reducible exact two_keep hneB ⟨j0, j1⟩ | with_reducible exact two_keep hneA ⟨j0, j1⟩ | go_keep)
      (first | (go_at_call 22; refine (HS.out _).mono ?_; rintro e wI ⟨rfl, hbI⟩; first | (refine tarm_2 hbI HA.out ?_; intro hbJ i0 i1) | (refine tarm_1 hbI HA.out ?_; intro hbJ i0 i1)) | (go_at_call 8; refine (HC3.out _).mono ?_; rintro e wC ⟨rfl, hbC⟩; first | (refine telim_B hbC ?_; intro k0 k1 kf; refine tarm_4 hbJ hbC HA.out ?_; intro hneB j0 j1) | (refine telim_A hbI hbC ?_; intro k0 k1 kf; refine tarm_3 hbJ hbC HA.out ?_; intro j0 j1) | (refine tarm_3 hbJ hbC HA.out ?_; intro j0 j1)))
    all_goals (go_wp2_with fail; go_meet; first | with_reducible exact pt_A hbI hbC | with_reducible exact pt_B hbJ hbC | with_reducible exact pt_C hbJ hbC)
  case rest =>
  obtain ⟨B4, rfl, rfl, hX4, hb⟩ := hcut
  obtain ⟨W5, hW5⟩ : ∃ v, v = wc := ⟨_, rfl⟩
  subst hW5
  have hA := HA.out.below hb
  have hBn := mthen HB.out hb
  have hX2 := HX2.out.below hb
  have hX3 := HX3.out.below hb
  clear HA HB m0 m1 hneA HX2 HX3
  have HK := Lib.hid (And.intro hA (And.intro hX2 (And.intro hX3 hX4)))
  have HB := Lib.hid hBn
  clear hX2 hX3 hX4 hA hb hBn
  go_wp2_with fail
  refine (answers_at _).mono ?_; rintro e w6 ⟨rfl, hb⟩
  obtain ⟨s0, a0, a1⟩ := HK.out.1.below hb
  obtain ⟨s1, c0, c1⟩ := HK.out.2.1.below hb
  obtain ⟨s2, d0, d1⟩ := HK.out.2.2.1.below hb
  obtain ⟨s3, f0, f1⟩ := HK.out.2.2.2.below hb
  have HB6 := Lib.hid (mthen HB.out hb)
  clear hb HK HB
  cases h1 : fits (p * 65536 + x)
  · have H1 := Lib.hid (fun v => refFits_no (p * 65536 + x) v h1)
    clear h1 HX
    go_wp2_with fail
    refine (H1.out _).mono ?_; rintro e w7 ⟨rfl, rfl⟩
    go_wp2_with fail
    refine (HU.out _).mono ?_; rintro e w7 ⟨rfl, rfl⟩
    go_wp2_with fail
    refine (HV.out _).mono ?_; rintro e w7 ⟨rfl, rfl⟩
    go_wp2_with fail
    go_ret
    exact ⟨rfl, (HB6.out.alloc HB6.out.size _).alloc (by have := HB6.out.size; simp <;> omega) _⟩
  · cases h2 : fits (q * 65536 + y)
    · have H1 := Lib.hid (fun v => refFits_yes (p * 65536 + x) v h1)
      have H2 := Lib.hid (fun v => refFits_no (q * 65536 + y) v h2)
      clear h1 h2 HX
      go_wp2_with fail
      refine (H1.out _).mono ?_; rintro e w7 ⟨rfl, rfl⟩
      go_wp2_with fail
      refine (H2.out _).mono ?_; rintro e w7 ⟨rfl, rfl⟩
      go_wp2_with fail
      refine (HU.out _).mono ?_; rintro e w7 ⟨rfl, rfl⟩
      go_wp2_with fail
      refine (HV.out _).mono ?_; rintro e w7 ⟨rfl, rfl⟩
      go_wp2_with fail
      go_ret
      exact ⟨rfl, (HB6.out.alloc HB6.out.size _).alloc (by have := HB6.out.size; simp <;> omega) _⟩
    · obtain ⟨rfl, rfl, rfl⟩ := HX.out h1 h2
      have H1 := Lib.hid (fun v => refFits_yes (p * 65536 + x) v h1)
      have H2 := Lib.hid (fun v => refFits_yes (q * 65536 + y) v h2)
      clear h1 h2 HX
      go_wp2_with fail
      refine (H1.out _).mono ?_; rintro e w7 ⟨rfl, rfl⟩
      go_wp2_with fail
      refine (H2.out _).mono ?_; rintro e w7 ⟨rfl, rfl⟩
      go_wp2_with fail
      refine (HU.out _).mono ?_; rintro e w7 ⟨rfl, rfl⟩
      go_wp2_with fail
      refine (HV.out _).mono ?_; rintro e w7 ⟨rfl, rfl⟩
      go_wp2_with fail
      go_ret
      exact ⟨rfl, (HB6.out.alloc HB6.out.size _).alloc (by have := HB6.out.size; simp <;> omega) _⟩
end Go.Proofs.Ytlgjlnbdfpncmaa
